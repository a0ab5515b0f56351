/-
  Reports read from bytes, as plain functions on lists: as the program reads them (what is missing is marked), as the document's answer does (what is missing reads as 0 and the whole is written again), and that both answer the same. No program in it.
-/
import Derived.Test.YteibjmlimcpaoaaDoorEEn
set_option linter.unusedVariables false
set_option linter.unusedSimpArgs false
namespace Go.Proofs.YteibjmlimcpaoaaDoor

/-- a number, the highest byte first -/
def beGo : Nat → List UInt8 → Nat
  | n, [] => n
  | n, a :: l => beGo (256 * n + a.toNat) l
def beL (l : List UInt8) : Nat := beGo 0 l

/-- what is left, and whether bytes were missing -/
abbrev St := List UInt8 × Bool
def dtake (n : Nat) (s : St) : List UInt8 × St := if s.1.length < n then ([], (s.1, true)) else (s.1.take n, (s.1.drop n, s.2))
def dnum (n : Nat) (s : St) : Nat × St := (beL (dtake n s).1, (dtake n s).2)
def dtab (s : St) : Tab × St :=
  let a := dtake 4 s
  let b := dnum 1 a.2
  let c := dnum 2 b.2
  (⟨⟨a.1.toArray⟩, b.1, c.1⟩, c.2)
def dnm (s : St) : Nm × St :=
  let a := dnum 2 s
  let b := dnum 2 a.2
  let c := dnum 2 b.2
  let d := dnum 2 c.2
  let e := dnum 1 d.2
  let f := dnum 1 e.2
  let g := dnum 1 f.2
  let h := dtake g.1 g.2
  (⟨a.1, b.1, c.1, d.1, e.1, f.1, ⟨h.1.toArray⟩⟩, h.2)
def dlist {α : Type} (f : St → α × St) : Nat → St → List α × St
  | 0, s => ([], s)
  | n + 1, s => ((f s).1 :: (dlist f n (f s).2).1, (dlist f n (f s).2).2)

def drep (s : St) : Rep × St :=
  let k := dnum 1 s
  let n := dnum 1 k.2
  let t := dlist dtab n.1 n.2
  let a := dnum 1 t.2
  let b := dnum 2 a.2
  let c := dnum 2 b.2
  let d := dnum 1 c.2
  let e := dnum 2 d.2
  let f := dnum 2 e.2
  let g := dnum 1 f.2
  let m := dnum 1 g.2
  let x := dlist dnm m.1 m.2
  let u := dnum 1 x.2
  let v := dnum 2 u.2
  let w := dnum 4 v.2
  (⟨k.1, t.1, a.1, b.1, c.1, d.1, e.1, f.1, g.1, x.1, u.1, v.1, w.1⟩, w.2)

def Rep.right (r : Rep) : Bool := rightB r.kind r.hs r.hf r.hu r.rs r.rv r.rb r.nm r.cs r.cf r.cc r.lt r.ln
def Rep.enc (r : Rep) : List UInt8 × Int := encOf r.kind r.hs r.hf r.hu r.rs r.rv r.rb r.nm r.cs r.cf r.cc (tabsR r.lt) (nmsR r.ln)
def Rep.bytes (r : Rep) : List UInt8 := oneL r.kind.toNat ++ (oneL r.lt.length ++ (r.lt.flatMap tabL ++ (oneL r.hs.toNat ++ (twoL r.hf.toNat ++ (twoL r.hu.toNat ++ (oneL r.rs.toNat ++ (twoL r.rv.toNat ++ (twoL r.rb.toNat ++ (oneL r.nm.toNat ++ (oneL r.ln.length ++ (r.ln.flatMap nmL ++ (oneL r.cs.toNat ++ (twoL r.cf.toNat ++ fourL r.cc.toNat)))))))))))))
def decOf (b : List UInt8) : Option Rep :=
  if (drep (b, false)).2 = ([], false) ∧ (drep (b, false)).1.right = true then some (drep (b, false)).1 else none

theorem enc_right {r : Rep} (h : r.right = true) : r.enc = (r.bytes, 0) := by
  have := (enc_good (kind := r.kind) (hs := r.hs) (hf := r.hf) (hu := r.hu) (rs := r.rs) (rv := r.rv) (rb := r.rb) (nm := r.nm) (cs := r.cs) (cf := r.cf) (cc := r.cc) (lt := r.lt) (ln := r.ln) h).1
  unfold Rep.enc Rep.bytes
  rw [this]
  simp only [List.append_assoc]
theorem enc_wrong {r : Rep} (h : r.right = false) : r.enc = ([], 5) := enc_bad h

theorem u8nat (a : UInt8) : UInt8.ofNat a.toNat = a := by
  rw [u8eq]
  have := a.toNat_lt
  omega
theorem be1 (a : UInt8) : beL [a] = a.toNat := by simp [beL, beGo]
theorem be2 (a b : UInt8) : beL [a, b] = 256 * a.toNat + b.toNat := by simp [beL, beGo]
theorem be4 (a b c d : UInt8) : beL [a, b, c, d] = 256 * (256 * (256 * a.toNat + b.toNat) + c.toNat) + d.toNat := by simp [beL, beGo]
theorem one_be (a : UInt8) : oneL (beL [a]) = [a] := by rw [be1, oneL, u8nat]
theorem two_be (a b : UInt8) : twoL (beL [a, b]) = [a, b] := by
  rw [be2, twoL]
  have h1 : UInt8.ofNat ((256 * a.toNat + b.toNat) / 256) = a := by
    rw [u8eq]; have := a.toNat_lt; have := b.toNat_lt; omega
  have h2 : UInt8.ofNat (256 * a.toNat + b.toNat) = b := by
    rw [u8eq]; have := a.toNat_lt; have := b.toNat_lt; omega
  rw [h1, h2]
theorem four_be (a b c d : UInt8) : fourL (beL [a, b, c, d]) = [a, b, c, d] := by
  rw [be4, fourL, twoL, twoL]
  have ha := a.toNat_lt
  have hb := b.toNat_lt
  have hc := c.toNat_lt
  have hd := d.toNat_lt
  obtain ⟨x, hx⟩ : ∃ x, 256 * (256 * (256 * a.toNat + b.toNat) + c.toNat) + d.toNat = x := ⟨_, rfl⟩
  rw [hx]
  have h1 : UInt8.ofNat (x / 65536 / 256) = a := by rw [u8eq]; omega
  have h2 : UInt8.ofNat (x / 65536) = b := by rw [u8eq]; omega
  have h3 : UInt8.ofNat (x / 256) = c := by rw [u8eq]; omega
  have h4 : UInt8.ofNat x = d := by rw [u8eq]; omega
  rw [h1, h2, h3, h4]
  rfl
theorem be_one (n : Nat) (h : n < 256) : beL (oneL n) = n := by
  rw [oneL, be1]
  have : (UInt8.ofNat n).toNat = n % 256 := by simp
  omega
theorem be_two (n : Nat) (h : n < 65536) : beL (twoL n) = n := by
  rw [twoL, be2]
  have h1 : (UInt8.ofNat (n / 256)).toNat = n / 256 % 256 := by simp
  have h2 : (UInt8.ofNat n).toNat = n % 256 := by simp
  omega
theorem be_four (n : Nat) (h : n < 4294967296) : beL (fourL n) = n := by
  rw [fourL, twoL, twoL]
  show beL [_, _, _, _] = n
  rw [be4]
  have h1 : (UInt8.ofNat (n / 65536 / 256)).toNat = n / 65536 / 256 % 256 := by simp
  have h2 : (UInt8.ofNat (n / 65536)).toNat = n / 65536 % 256 := by simp
  have h3 : (UInt8.ofNat (n / 256)).toNat = n / 256 % 256 := by simp
  have h4 : (UInt8.ofNat n).toNat = n % 256 := by simp
  omega

theorem dtake_sound {n : Nat} {s : St} (h : (dtake n s).2.2 = false) : s.2 = false ∧ s.1 = (dtake n s).1 ++ (dtake n s).2.1 ∧ (dtake n s).1.length = n := by
  unfold dtake at *
  by_cases c : s.1.length < n
  · rw [if_pos c] at h; cases h
  · rw [if_neg c] at h ⊢
    exact ⟨h, (List.take_append_drop n s.1).symm, by rw [List.length_take]; omega⟩
theorem dtake_full (l r : List UInt8) (b : Bool) : dtake l.length (l ++ r, b) = (l, (r, b)) := by
  unfold dtake
  rw [if_neg (by simp)]
  simp
theorem list1 {α : Type} : ∀ (l : List α), l.length = 1 → ∃ a, l = [a]
  | [a], _ => ⟨a, rfl⟩
theorem list2 {α : Type} : ∀ (l : List α), l.length = 2 → ∃ a b, l = [a, b]
  | [a, b], _ => ⟨a, b, rfl⟩
theorem list4 {α : Type} : ∀ (l : List α), l.length = 4 → ∃ a b c d, l = [a, b, c, d]
  | [a, b, c, d], _ => ⟨a, b, c, d, rfl⟩
theorem dnum1_sound {s : St} (h : (dnum 1 s).2.2 = false) : s.2 = false ∧ s.1 = oneL (dnum 1 s).1 ++ (dnum 1 s).2.1 := by
  obtain ⟨h1, h2, h3⟩ := dtake_sound (n := 1) (s := s) h
  refine ⟨h1, ?_⟩
  obtain ⟨a, ha⟩ := list1 _ h3
  show s.1 = oneL (beL (dtake 1 s).1) ++ (dtake 1 s).2.1
  rw [ha, one_be, ← ha]
  exact h2
theorem dnum2_sound {s : St} (h : (dnum 2 s).2.2 = false) : s.2 = false ∧ s.1 = twoL (dnum 2 s).1 ++ (dnum 2 s).2.1 := by
  obtain ⟨h1, h2, h3⟩ := dtake_sound (n := 2) (s := s) h
  refine ⟨h1, ?_⟩
  obtain ⟨a, b, ha⟩ := list2 _ h3
  show s.1 = twoL (beL (dtake 2 s).1) ++ (dtake 2 s).2.1
  rw [ha, two_be, ← ha]
  exact h2
theorem dnum4_sound {s : St} (h : (dnum 4 s).2.2 = false) : s.2 = false ∧ s.1 = fourL (dnum 4 s).1 ++ (dnum 4 s).2.1 := by
  obtain ⟨h1, h2, h3⟩ := dtake_sound (n := 4) (s := s) h
  refine ⟨h1, ?_⟩
  obtain ⟨a, b, c, d, ha⟩ := list4 _ h3
  show s.1 = fourL (beL (dtake 4 s).1) ++ (dtake 4 s).2.1
  rw [ha, four_be, ← ha]
  exact h2
theorem dnum1_full (n : Nat) (h : n < 256) (r : List UInt8) (b : Bool) : dnum 1 (oneL n ++ r, b) = (n, (r, b)) := by
  have := dtake_full (oneL n) r b
  have e : (oneL n).length = 1 := rfl
  rw [e] at this
  unfold dnum
  rw [this, be_one n h]
theorem dnum2_full (n : Nat) (h : n < 65536) (r : List UInt8) (b : Bool) : dnum 2 (twoL n ++ r, b) = (n, (r, b)) := by
  have := dtake_full (twoL n) r b
  have e : (twoL n).length = 2 := rfl
  rw [e] at this
  unfold dnum
  rw [this, be_two n h]
theorem dnum4_full (n : Nat) (h : n < 4294967296) (r : List UInt8) (b : Bool) : dnum 4 (fourL n ++ r, b) = (n, (r, b)) := by
  have := dtake_full (fourL n) r b
  have e : (fourL n).length = 4 := rfl
  rw [e] at this
  unfold dnum
  rw [this, be_four n h]

theorem dtab_sound {s : St} (h : (dtab s).2.2 = false) : s.2 = false ∧ s.1 = tabL (dtab s).1 ++ (dtab s).2.1 := by
  unfold dtab at h ⊢
  simp only at h ⊢
  obtain ⟨c1, c2⟩ := dnum2_sound h
  obtain ⟨b1, b2⟩ := dnum1_sound c1
  obtain ⟨a1, a2, a3⟩ := dtake_sound b1
  refine ⟨a1, ?_⟩
  simp only [tabL, Int.toNat_natCast]
  rw [List.append_assoc, List.append_assoc, ← c2, ← b2]
  exact a2
theorem dnm_sound {s : St} (h : (dnm s).2.2 = false) : s.2 = false ∧ s.1 = nmL (dnm s).1 ++ (dnm s).2.1 := by
  unfold dnm at h ⊢
  simp only at h ⊢
  obtain ⟨h1, h2, h3⟩ := dtake_sound h
  obtain ⟨g1, g2⟩ := dnum1_sound h1
  obtain ⟨f1, f2⟩ := dnum1_sound g1
  obtain ⟨e1, e2⟩ := dnum1_sound f1
  obtain ⟨d1, d2⟩ := dnum2_sound e1
  obtain ⟨c1, c2⟩ := dnum2_sound d1
  obtain ⟨b1, b2⟩ := dnum2_sound c1
  obtain ⟨a1, a2⟩ := dnum2_sound b1
  refine ⟨a1, ?_⟩
  simp only [nmL, Int.toNat_natCast]
  have hs : (ByteArray.mk (dtake (dnum 1 (dnum 1 (dnum 1 (dnum 2 (dnum 2 (dnum 2 (dnum 2 s).2).2).2).2).2).2).1 (dnum 1 (dnum 1 (dnum 1 (dnum 2 (dnum 2 (dnum 2 (dnum 2 s).2).2).2).2).2).2).2).1.toArray).size = (dnum 1 (dnum 1 (dnum 1 (dnum 2 (dnum 2 (dnum 2 (dnum 2 s).2).2).2).2).2).2).1 := by
    show Array.size _ = _
    rw [List.size_toArray]
    exact h3
  rw [hs]
  simp only [List.append_assoc]
  rw [← h2, ← g2, ← f2, ← e2, ← d2, ← c2, ← b2]
  exact a2
theorem dlist_sound {α : Type} {f : St → α × St} {e : α → List UInt8} (hf : ∀ s, (f s).2.2 = false → s.2 = false ∧ s.1 = e (f s).1 ++ (f s).2.1) : ∀ (n : Nat) (s : St), (dlist f n s).2.2 = false → s.2 = false ∧ s.1 = (dlist f n s).1.flatMap e ++ (dlist f n s).2.1
  | 0, s, h => ⟨h, by simp [dlist]⟩
  | n + 1, s, h => by
    simp only [dlist] at h ⊢
    obtain ⟨b1, b2⟩ := dlist_sound hf n _ h
    obtain ⟨a1, a2⟩ := hf s b1
    refine ⟨a1, ?_⟩
    rw [List.flatMap_cons, List.append_assoc, ← b2]
    exact a2
theorem dlist_length {α : Type} (f : St → α × St) : ∀ (n : Nat) (s : St), (dlist f n s).1.length = n
  | 0, s => rfl
  | n + 1, s => by simp [dlist, dlist_length f n]
theorem dlist_full {α : Type} {f : St → α × St} {e : α → List UInt8} : ∀ (l : List α) (r : List UInt8) (b : Bool), (∀ a ∈ l, ∀ r, f (e a ++ r, b) = (a, (r, b))) → dlist f l.length (l.flatMap e ++ r, b) = (l, (r, b))
  | [], r, b, h => by simp [dlist]
  | a :: l, r, b, h => by
    simp only [List.length_cons, dlist, List.flatMap_cons, List.append_assoc]
    rw [h a (by simp)]
    simp only
    rw [dlist_full l r b (fun x hx => h x (by simp [hx]))]
theorem dtab_full (t : Tab) (h : tabOk t = true) (r : List UInt8) (b : Bool) : dtab (tabL t ++ r, b) = (t, (r, b)) := by
  simp only [tabOk, Bool.and_eq_true, decide_eq_true_eq] at h
  obtain ⟨⟨h1, h2⟩, h3⟩ := h
  obtain ⟨tag, st, sz⟩ := t
  obtain ⟨sn, rfl, e2⟩ := toB_nat h2
  obtain ⟨zn, rfl, e3⟩ := toB_nat h3
  simp only [tabL, Int.toNat_natCast, dtab, List.append_assoc]
  have e : tag.data.toList.length = 4 := by simpa using h1
  have h4 := dtake_full tag.data.toList (oneL sn ++ (twoL zn ++ r)) b
  rw [e] at h4
  rw [h4]
  simp only
  rw [dnum1_full sn (by omega)]
  simp only
  rw [dnum2_full zn (by omega)]
theorem dnm_full (t : Nm) (h : nmOk t = true) (r : List UInt8) (b : Bool) : dnm (nmL t ++ r, b) = (t, (r, b)) := by
  simp only [nmOk, Bool.and_eq_true] at h
  obtain ⟨⟨⟨⟨⟨⟨h1, h2⟩, h3⟩, h4⟩, h5⟩, h6⟩, h7⟩ := h
  have h8 := properB_size _ h7
  obtain ⟨pl, en, la, id, st, ms, tx⟩ := t
  obtain ⟨pl, rfl, e1⟩ := toB_nat h1
  obtain ⟨en, rfl, e2⟩ := toB_nat h2
  obtain ⟨la, rfl, e3⟩ := toB_nat h3
  obtain ⟨id, rfl, e4⟩ := toB_nat h4
  obtain ⟨st, rfl, e5⟩ := toB_nat h5
  obtain ⟨ms, rfl, e6⟩ := toB_nat h6
  simp only at h8
  simp only [nmL, Int.toNat_natCast, dnm, List.append_assoc]
  rw [dnum2_full pl (by omega)]
  simp only
  rw [dnum2_full en (by omega)]
  simp only
  rw [dnum2_full la (by omega)]
  simp only
  rw [dnum2_full id (by omega)]
  simp only
  rw [dnum1_full st (by omega)]
  simp only
  rw [dnum1_full ms (by omega)]
  simp only
  rw [dnum1_full tx.size (by omega)]
  simp only
  have h4 := dtake_full tx.data.toList r b
  have e : tx.data.toList.length = tx.size := by simp
  rw [e] at h4
  rw [h4]

theorem drep_sound {b : List UInt8} (h : (drep (b, false)).2 = ([], false)) : (drep (b, false)).1.bytes = b := by
  have h' := congrArg Prod.snd h
  have h0 := congrArg Prod.fst h
  unfold drep at h' h0 ⊢
  simp only at h' h0 ⊢
  obtain ⟨w1, w2⟩ := dnum4_sound h'
  obtain ⟨v1, v2⟩ := dnum2_sound w1
  obtain ⟨u1, u2⟩ := dnum1_sound v1
  obtain ⟨x1, x2⟩ := dlist_sound (fun s h => dnm_sound h) _ _ u1
  obtain ⟨m1, m2⟩ := dnum1_sound x1
  obtain ⟨g1, g2⟩ := dnum1_sound m1
  obtain ⟨f1, f2⟩ := dnum2_sound g1
  obtain ⟨e1, e2⟩ := dnum2_sound f1
  obtain ⟨d1, d2⟩ := dnum1_sound e1
  obtain ⟨c1, c2⟩ := dnum2_sound d1
  obtain ⟨b1, b2⟩ := dnum2_sound c1
  obtain ⟨a1, a2⟩ := dnum1_sound b1
  obtain ⟨t1, t2⟩ := dlist_sound (fun s h => dtab_sound h) _ _ a1
  obtain ⟨n1, n2⟩ := dnum1_sound t1
  obtain ⟨k1, k2⟩ := dnum1_sound n1
  rw [h0, List.append_nil] at w2
  unfold Rep.bytes
  simp only [Int.toNat_natCast, dlist_length]
  rw [← w2, ← v2, ← u2, ← x2, ← m2, ← g2, ← f2, ← e2, ← d2, ← c2, ← b2, ← a2, ← t2, ← n2]
  exact k2.symm

theorem rep_good {r : Rep} (h : r.right = true) : toB 3 r.kind = true ∧ toB 8 r.hs = true ∧ toB 8 r.rs = true ∧ toB 8 r.nm = true ∧ toB 8 r.cs = true ∧ toB 65535 r.hf = true ∧ toB 65535 r.hu = true ∧ toB 65535 r.rv = true ∧ toB 65535 r.rb = true ∧ toB 65535 r.cf = true ∧ toB 1114112 r.cc = true ∧ r.lt.length ≤ 16 ∧ r.ln.length ≤ 20 ∧ (∀ t ∈ r.lt, tabOk t = true) ∧ (∀ x ∈ r.ln, nmOk x = true) :=
  (enc_good (kind := r.kind) (hs := r.hs) (hf := r.hf) (hu := r.hu) (rs := r.rs) (rv := r.rv) (rb := r.rb) (nm := r.nm) (cs := r.cs) (cf := r.cf) (cc := r.cc) (lt := r.lt) (ln := r.ln) h).2

theorem drep_full {r : Rep} (h : r.right = true) : drep (r.bytes, false) = (r, ([], false)) := by
  obtain ⟨v0, v1, v2, v3, v4, u1, u2, u3, u4, u5, u6, p1, p2, p3, p4⟩ := rep_good h
  clear h
  obtain ⟨kind, lt, hs, hf, hu, rs, rv, rb, nm, ln, cs, cf, cc⟩ := r
  simp only at v0 v1 v2 v3 v4 u1 u2 u3 u4 u5 u6 p1 p2 p3 p4
  obtain ⟨kind, rfl, e0⟩ := toB_nat v0
  obtain ⟨hs, rfl, e1⟩ := toB_nat v1
  obtain ⟨rs, rfl, e2⟩ := toB_nat v2
  obtain ⟨nm, rfl, e3⟩ := toB_nat v3
  obtain ⟨cs, rfl, e4⟩ := toB_nat v4
  obtain ⟨hf, rfl, e5⟩ := toB_nat u1
  obtain ⟨hu, rfl, e6⟩ := toB_nat u2
  obtain ⟨rv, rfl, e7⟩ := toB_nat u3
  obtain ⟨rb, rfl, e8⟩ := toB_nat u4
  obtain ⟨cf, rfl, e9⟩ := toB_nat u5
  obtain ⟨cc, rfl, e10⟩ := toB_nat u6
  unfold Rep.bytes drep
  simp only [Int.toNat_natCast]
  rw [dnum1_full kind (by omega)]
  simp only
  rw [dnum1_full lt.length (by omega)]
  simp only
  rw [dlist_full lt _ _ (fun a ha r => dtab_full a (p3 a ha) r _)]
  simp only
  rw [dnum1_full hs (by omega)]
  simp only
  rw [dnum2_full hf (by omega)]
  simp only
  rw [dnum2_full hu (by omega)]
  simp only
  rw [dnum1_full rs (by omega)]
  simp only
  rw [dnum2_full rv (by omega)]
  simp only
  rw [dnum2_full rb (by omega)]
  simp only
  rw [dnum1_full nm (by omega)]
  simp only
  rw [dnum1_full ln.length (by omega)]
  simp only
  rw [dlist_full ln _ _ (fun a ha r => dnm_full a (p4 a ha) r _)]
  simp only
  rw [dnum1_full cs (by omega)]
  simp only
  rw [dnum2_full cf (by omega)]
  simp only
  have := dnum4_full cc (by omega) [] false
  rw [List.append_nil] at this
  rw [this]

theorem decOf_some {b : List UInt8} {r : Rep} : decOf b = some r ↔ r.right = true ∧ r.bytes = b := by
  constructor
  · intro h
    unfold decOf at h
    split at h
    · rename_i c
      cases h
      exact ⟨c.2, drep_sound c.1⟩
    · cases h
  · rintro ⟨h1, rfl⟩
    unfold decOf
    rw [drep_full h1]
    simp [h1]
end Go.Proofs.YteibjmlimcpaoaaDoor
