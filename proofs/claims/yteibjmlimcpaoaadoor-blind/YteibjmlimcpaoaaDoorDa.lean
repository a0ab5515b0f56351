/-
  Reports read from bytes, as plain functions on lists: as the program reads them (what is missing is marked), as the document's answer does (what is missing reads as 0 and the whole is written again), and that both answer the same. No program in it.
  What report.reader's methods take and number answer, and what they leave of the reader; nothing else that lay in memory turns.
  What report.reader's methods one, two, four, bytes, table and name answer, and what they leave of the reader; nothing else that lay in memory turns. (strings.Clone by the library's own contract.)
  What report.list answers for tables and for names: so many of them, read one behind the other, in new memory; what is left of the reader; nothing else that lay in memory turns.
  What report.reader's method report answers: the report that was read, its lists in new memory; what is left of the reader; nothing else that lay in memory turns.
  What report.Decode and visor.Decode answer, for every string: the right report that has these bytes, its lists in new memory, or that there is none; nothing that lay in memory turns.
-/
import Derived.Test.YteibjmlimcpaoaaDoorEb
import Derived.Test.YteibjmlimcpaoaaDoorEl
import Derived.Shelf.Pu.Clone
set_option linter.unusedVariables false
set_option linter.unusedSimpArgs false
namespace Go.Proofs.YteibjmlimcpaoaaDoor

/-- a number, the highest byte first -/
def beGo : Nat → List UInt8 → Nat
  | n, [] => n
  | n, a :: l => beGo (256 * n + a.toNat) l
def beL (l : List UInt8) : Nat := beGo 0 l

/-- what is left, and whether bytes were missing -/
abbrev St := List UInt8 × Bool
def dtake (n : Nat) (s : St) : List UInt8 × St := if s.1.length < n then ([], (s.1, true)) else (s.1.take n, (s.1.drop n, s.2))
def dnum (n : Nat) (s : St) : Nat × St := (beL (dtake n s).1, (dtake n s).2)
def dtab (s : St) : Tab × St :=
  let a := dtake 4 s
  let b := dnum 1 a.2
  let c := dnum 2 b.2
  (⟨⟨a.1.toArray⟩, b.1, c.1⟩, c.2)
def dnm (s : St) : Nm × St :=
  let a := dnum 2 s
  let b := dnum 2 a.2
  let c := dnum 2 b.2
  let d := dnum 2 c.2
  let e := dnum 1 d.2
  let f := dnum 1 e.2
  let g := dnum 1 f.2
  let h := dtake g.1 g.2
  (⟨a.1, b.1, c.1, d.1, e.1, f.1, ⟨h.1.toArray⟩⟩, h.2)
def dlist {α : Type} (f : St → α × St) : Nat → St → List α × St
  | 0, s => ([], s)
  | n + 1, s => ((f s).1 :: (dlist f n (f s).2).1, (dlist f n (f s).2).2)

def drep (s : St) : Rep × St :=
  let k := dnum 1 s
  let n := dnum 1 k.2
  let t := dlist dtab n.1 n.2
  let a := dnum 1 t.2
  let b := dnum 2 a.2
  let c := dnum 2 b.2
  let d := dnum 1 c.2
  let e := dnum 2 d.2
  let f := dnum 2 e.2
  let g := dnum 1 f.2
  let m := dnum 1 g.2
  let x := dlist dnm m.1 m.2
  let u := dnum 1 x.2
  let v := dnum 2 u.2
  let w := dnum 4 v.2
  (⟨k.1, t.1, a.1, b.1, c.1, d.1, e.1, f.1, g.1, x.1, u.1, v.1, w.1⟩, w.2)

def Rep.right (r : Rep) : Bool := rightB r.kind r.hs r.hf r.hu r.rs r.rv r.rb r.nm r.cs r.cf r.cc r.lt r.ln
def Rep.enc (r : Rep) : List UInt8 × Int := encOf r.kind r.hs r.hf r.hu r.rs r.rv r.rb r.nm r.cs r.cf r.cc (tabsR r.lt) (nmsR r.ln)
def Rep.bytes (r : Rep) : List UInt8 := oneL r.kind.toNat ++ (oneL r.lt.length ++ (r.lt.flatMap tabL ++ (oneL r.hs.toNat ++ (twoL r.hf.toNat ++ (twoL r.hu.toNat ++ (oneL r.rs.toNat ++ (twoL r.rv.toNat ++ (twoL r.rb.toNat ++ (oneL r.nm.toNat ++ (oneL r.ln.length ++ (r.ln.flatMap nmL ++ (oneL r.cs.toNat ++ (twoL r.cf.toNat ++ fourL r.cc.toNat)))))))))))))
def decOf (b : List UInt8) : Option Rep :=
  if (drep (b, false)).2 = ([], false) ∧ (drep (b, false)).1.right = true then some (drep (b, false)).1 else none

theorem enc_right {r : Rep} (h : r.right = true) : r.enc = (r.bytes, 0) := by
  have := (enc_good (kind := r.kind) (hs := r.hs) (hf := r.hf) (hu := r.hu) (rs := r.rs) (rv := r.rv) (rb := r.rb) (nm := r.nm) (cs := r.cs) (cf := r.cf) (cc := r.cc) (lt := r.lt) (ln := r.ln) h).1
  unfold Rep.enc Rep.bytes
  rw [this]
  simp only [List.append_assoc]
theorem enc_wrong {r : Rep} (h : r.right = false) : r.enc = ([], 5) := enc_bad h

theorem u8nat (a : UInt8) : UInt8.ofNat a.toNat = a := by
  rw [u8eq]
  have := a.toNat_lt
  omega
theorem be1 (a : UInt8) : beL [a] = a.toNat := by simp [beL, beGo]
theorem be2 (a b : UInt8) : beL [a, b] = 256 * a.toNat + b.toNat := by simp [beL, beGo]
theorem be4 (a b c d : UInt8) : beL [a, b, c, d] = 256 * (256 * (256 * a.toNat + b.toNat) + c.toNat) + d.toNat := by simp [beL, beGo]
theorem one_be (a : UInt8) : oneL (beL [a]) = [a] := by rw [be1, oneL, u8nat]
theorem two_be (a b : UInt8) : twoL (beL [a, b]) = [a, b] := by
  rw [be2, twoL]
  have h1 : UInt8.ofNat ((256 * a.toNat + b.toNat) / 256) = a := by
    rw [u8eq]; have := a.toNat_lt; have := b.toNat_lt; omega
  have h2 : UInt8.ofNat (256 * a.toNat + b.toNat) = b := by
    rw [u8eq]; have := a.toNat_lt; have := b.toNat_lt; omega
  rw [h1, h2]
theorem four_be (a b c d : UInt8) : fourL (beL [a, b, c, d]) = [a, b, c, d] := by
  rw [be4, fourL, twoL, twoL]
  have ha := a.toNat_lt
  have hb := b.toNat_lt
  have hc := c.toNat_lt
  have hd := d.toNat_lt
  obtain ⟨x, hx⟩ : ∃ x, 256 * (256 * (256 * a.toNat + b.toNat) + c.toNat) + d.toNat = x := ⟨_, rfl⟩
  rw [hx]
  have h1 : UInt8.ofNat (x / 65536 / 256) = a := by rw [u8eq]; omega
  have h2 : UInt8.ofNat (x / 65536) = b := by rw [u8eq]; omega
  have h3 : UInt8.ofNat (x / 256) = c := by rw [u8eq]; omega
  have h4 : UInt8.ofNat x = d := by rw [u8eq]; omega
  rw [h1, h2, h3, h4]
  rfl
theorem be_one (n : Nat) (h : n < 256) : beL (oneL n) = n := by
  rw [oneL, be1]
  have : (UInt8.ofNat n).toNat = n % 256 := by simp
  omega
theorem be_two (n : Nat) (h : n < 65536) : beL (twoL n) = n := by
  rw [twoL, be2]
  have h1 : (UInt8.ofNat (n / 256)).toNat = n / 256 % 256 := by simp
  have h2 : (UInt8.ofNat n).toNat = n % 256 := by simp
  omega
theorem be_four (n : Nat) (h : n < 4294967296) : beL (fourL n) = n := by
  rw [fourL, twoL, twoL]
  show beL [_, _, _, _] = n
  rw [be4]
  have h1 : (UInt8.ofNat (n / 65536 / 256)).toNat = n / 65536 / 256 % 256 := by simp
  have h2 : (UInt8.ofNat (n / 65536)).toNat = n / 65536 % 256 := by simp
  have h3 : (UInt8.ofNat (n / 256)).toNat = n / 256 % 256 := by simp
  have h4 : (UInt8.ofNat n).toNat = n % 256 := by simp
  omega

theorem dtake_sound {n : Nat} {s : St} (h : (dtake n s).2.2 = false) : s.2 = false ∧ s.1 = (dtake n s).1 ++ (dtake n s).2.1 ∧ (dtake n s).1.length = n := by
  unfold dtake at *
  by_cases c : s.1.length < n
  · rw [if_pos c] at h; cases h
  · rw [if_neg c] at h ⊢
    exact ⟨h, (List.take_append_drop n s.1).symm, by rw [List.length_take]; omega⟩
theorem dtake_full (l r : List UInt8) (b : Bool) : dtake l.length (l ++ r, b) = (l, (r, b)) := by
  unfold dtake
  rw [if_neg (by simp)]
  simp
theorem list1 {α : Type} : ∀ (l : List α), l.length = 1 → ∃ a, l = [a]
  | [a], _ => ⟨a, rfl⟩
theorem list2 {α : Type} : ∀ (l : List α), l.length = 2 → ∃ a b, l = [a, b]
  | [a, b], _ => ⟨a, b, rfl⟩
theorem list4 {α : Type} : ∀ (l : List α), l.length = 4 → ∃ a b c d, l = [a, b, c, d]
  | [a, b, c, d], _ => ⟨a, b, c, d, rfl⟩
theorem dnum1_sound {s : St} (h : (dnum 1 s).2.2 = false) : s.2 = false ∧ s.1 = oneL (dnum 1 s).1 ++ (dnum 1 s).2.1 := by
  obtain ⟨h1, h2, h3⟩ := dtake_sound (n := 1) (s := s) h
  refine ⟨h1, ?_⟩
  obtain ⟨a, ha⟩ := list1 _ h3
  show s.1 = oneL (beL (dtake 1 s).1) ++ (dtake 1 s).2.1
  rw [ha, one_be, ← ha]
  exact h2
theorem dnum2_sound {s : St} (h : (dnum 2 s).2.2 = false) : s.2 = false ∧ s.1 = twoL (dnum 2 s).1 ++ (dnum 2 s).2.1 := by
  obtain ⟨h1, h2, h3⟩ := dtake_sound (n := 2) (s := s) h
  refine ⟨h1, ?_⟩
  obtain ⟨a, b, ha⟩ := list2 _ h3
  show s.1 = twoL (beL (dtake 2 s).1) ++ (dtake 2 s).2.1
  rw [ha, two_be, ← ha]
  exact h2
theorem dnum4_sound {s : St} (h : (dnum 4 s).2.2 = false) : s.2 = false ∧ s.1 = fourL (dnum 4 s).1 ++ (dnum 4 s).2.1 := by
  obtain ⟨h1, h2, h3⟩ := dtake_sound (n := 4) (s := s) h
  refine ⟨h1, ?_⟩
  obtain ⟨a, b, c, d, ha⟩ := list4 _ h3
  show s.1 = fourL (beL (dtake 4 s).1) ++ (dtake 4 s).2.1
  rw [ha, four_be, ← ha]
  exact h2
theorem dnum1_full (n : Nat) (h : n < 256) (r : List UInt8) (b : Bool) : dnum 1 (oneL n ++ r, b) = (n, (r, b)) := by
  have := dtake_full (oneL n) r b
  have e : (oneL n).length = 1 := rfl
  rw [e] at this
  unfold dnum
  rw [this, be_one n h]
theorem dnum2_full (n : Nat) (h : n < 65536) (r : List UInt8) (b : Bool) : dnum 2 (twoL n ++ r, b) = (n, (r, b)) := by
  have := dtake_full (twoL n) r b
  have e : (twoL n).length = 2 := rfl
  rw [e] at this
  unfold dnum
  rw [this, be_two n h]
theorem dnum4_full (n : Nat) (h : n < 4294967296) (r : List UInt8) (b : Bool) : dnum 4 (fourL n ++ r, b) = (n, (r, b)) := by
  have := dtake_full (fourL n) r b
  have e : (fourL n).length = 4 := rfl
  rw [e] at this
  unfold dnum
  rw [this, be_four n h]

theorem dtab_sound {s : St} (h : (dtab s).2.2 = false) : s.2 = false ∧ s.1 = tabL (dtab s).1 ++ (dtab s).2.1 := by
  unfold dtab at h ⊢
  simp only at h ⊢
  obtain ⟨c1, c2⟩ := dnum2_sound h
  obtain ⟨b1, b2⟩ := dnum1_sound c1
  obtain ⟨a1, a2, a3⟩ := dtake_sound b1
  refine ⟨a1, ?_⟩
  simp only [tabL, Int.toNat_natCast]
  rw [List.append_assoc, List.append_assoc, ← c2, ← b2]
  exact a2
theorem dnm_sound {s : St} (h : (dnm s).2.2 = false) : s.2 = false ∧ s.1 = nmL (dnm s).1 ++ (dnm s).2.1 := by
  unfold dnm at h ⊢
  simp only at h ⊢
  obtain ⟨h1, h2, h3⟩ := dtake_sound h
  obtain ⟨g1, g2⟩ := dnum1_sound h1
  obtain ⟨f1, f2⟩ := dnum1_sound g1
  obtain ⟨e1, e2⟩ := dnum1_sound f1
  obtain ⟨d1, d2⟩ := dnum2_sound e1
  obtain ⟨c1, c2⟩ := dnum2_sound d1
  obtain ⟨b1, b2⟩ := dnum2_sound c1
  obtain ⟨a1, a2⟩ := dnum2_sound b1
  refine ⟨a1, ?_⟩
  simp only [nmL, Int.toNat_natCast]
  have hs : (ByteArray.mk (dtake (dnum 1 (dnum 1 (dnum 1 (dnum 2 (dnum 2 (dnum 2 (dnum 2 s).2).2).2).2).2).2).1 (dnum 1 (dnum 1 (dnum 1 (dnum 2 (dnum 2 (dnum 2 (dnum 2 s).2).2).2).2).2).2).2).1.toArray).size = (dnum 1 (dnum 1 (dnum 1 (dnum 2 (dnum 2 (dnum 2 (dnum 2 s).2).2).2).2).2).2).1 := by
    show Array.size _ = _
    rw [List.size_toArray]
    exact h3
  rw [hs]
  simp only [List.append_assoc]
  rw [← h2, ← g2, ← f2, ← e2, ← d2, ← c2, ← b2]
  exact a2
theorem dlist_sound {α : Type} {f : St → α × St} {e : α → List UInt8} (hf : ∀ s, (f s).2.2 = false → s.2 = false ∧ s.1 = e (f s).1 ++ (f s).2.1) : ∀ (n : Nat) (s : St), (dlist f n s).2.2 = false → s.2 = false ∧ s.1 = (dlist f n s).1.flatMap e ++ (dlist f n s).2.1
  | 0, s, h => ⟨h, by simp [dlist]⟩
  | n + 1, s, h => by
    simp only [dlist] at h ⊢
    obtain ⟨b1, b2⟩ := dlist_sound hf n _ h
    obtain ⟨a1, a2⟩ := hf s b1
    refine ⟨a1, ?_⟩
    rw [List.flatMap_cons, List.append_assoc, ← b2]
    exact a2
theorem dlist_length {α : Type} (f : St → α × St) : ∀ (n : Nat) (s : St), (dlist f n s).1.length = n
  | 0, s => rfl
  | n + 1, s => by simp [dlist, dlist_length f n]
theorem dlist_full {α : Type} {f : St → α × St} {e : α → List UInt8} : ∀ (l : List α) (r : List UInt8) (b : Bool), (∀ a ∈ l, ∀ r, f (e a ++ r, b) = (a, (r, b))) → dlist f l.length (l.flatMap e ++ r, b) = (l, (r, b))
  | [], r, b, h => by simp [dlist]
  | a :: l, r, b, h => by
    simp only [List.length_cons, dlist, List.flatMap_cons, List.append_assoc]
    rw [h a (by simp)]
    simp only
    rw [dlist_full l r b (fun x hx => h x (by simp [hx]))]
theorem dtab_full (t : Tab) (h : tabOk t = true) (r : List UInt8) (b : Bool) : dtab (tabL t ++ r, b) = (t, (r, b)) := by
  simp only [tabOk, Bool.and_eq_true, decide_eq_true_eq] at h
  obtain ⟨⟨h1, h2⟩, h3⟩ := h
  obtain ⟨tag, st, sz⟩ := t
  obtain ⟨sn, rfl, e2⟩ := toB_nat h2
  obtain ⟨zn, rfl, e3⟩ := toB_nat h3
  simp only [tabL, Int.toNat_natCast, dtab, List.append_assoc]
  have e : tag.data.toList.length = 4 := by simpa using h1
  have h4 := dtake_full tag.data.toList (oneL sn ++ (twoL zn ++ r)) b
  rw [e] at h4
  rw [h4]
  simp only
  rw [dnum1_full sn (by omega)]
  simp only
  rw [dnum2_full zn (by omega)]
theorem dnm_full (t : Nm) (h : nmOk t = true) (r : List UInt8) (b : Bool) : dnm (nmL t ++ r, b) = (t, (r, b)) := by
  simp only [nmOk, Bool.and_eq_true] at h
  obtain ⟨⟨⟨⟨⟨⟨h1, h2⟩, h3⟩, h4⟩, h5⟩, h6⟩, h7⟩ := h
  have h8 := properB_size _ h7
  obtain ⟨pl, en, la, id, st, ms, tx⟩ := t
  obtain ⟨pl, rfl, e1⟩ := toB_nat h1
  obtain ⟨en, rfl, e2⟩ := toB_nat h2
  obtain ⟨la, rfl, e3⟩ := toB_nat h3
  obtain ⟨id, rfl, e4⟩ := toB_nat h4
  obtain ⟨st, rfl, e5⟩ := toB_nat h5
  obtain ⟨ms, rfl, e6⟩ := toB_nat h6
  simp only at h8
  simp only [nmL, Int.toNat_natCast, dnm, List.append_assoc]
  rw [dnum2_full pl (by omega)]
  simp only
  rw [dnum2_full en (by omega)]
  simp only
  rw [dnum2_full la (by omega)]
  simp only
  rw [dnum2_full id (by omega)]
  simp only
  rw [dnum1_full st (by omega)]
  simp only
  rw [dnum1_full ms (by omega)]
  simp only
  rw [dnum1_full tx.size (by omega)]
  simp only
  have h4 := dtake_full tx.data.toList r b
  have e : tx.data.toList.length = tx.size := by simp
  rw [e] at h4
  rw [h4]

theorem drep_sound {b : List UInt8} (h : (drep (b, false)).2 = ([], false)) : (drep (b, false)).1.bytes = b := by
  have h' := congrArg Prod.snd h
  have h0 := congrArg Prod.fst h
  unfold drep at h' h0 ⊢
  simp only at h' h0 ⊢
  obtain ⟨w1, w2⟩ := dnum4_sound h'
  obtain ⟨v1, v2⟩ := dnum2_sound w1
  obtain ⟨u1, u2⟩ := dnum1_sound v1
  obtain ⟨x1, x2⟩ := dlist_sound (fun s h => dnm_sound h) _ _ u1
  obtain ⟨m1, m2⟩ := dnum1_sound x1
  obtain ⟨g1, g2⟩ := dnum1_sound m1
  obtain ⟨f1, f2⟩ := dnum2_sound g1
  obtain ⟨e1, e2⟩ := dnum2_sound f1
  obtain ⟨d1, d2⟩ := dnum1_sound e1
  obtain ⟨c1, c2⟩ := dnum2_sound d1
  obtain ⟨b1, b2⟩ := dnum2_sound c1
  obtain ⟨a1, a2⟩ := dnum1_sound b1
  obtain ⟨t1, t2⟩ := dlist_sound (fun s h => dtab_sound h) _ _ a1
  obtain ⟨n1, n2⟩ := dnum1_sound t1
  obtain ⟨k1, k2⟩ := dnum1_sound n1
  rw [h0, List.append_nil] at w2
  unfold Rep.bytes
  simp only [Int.toNat_natCast, dlist_length]
  rw [← w2, ← v2, ← u2, ← x2, ← m2, ← g2, ← f2, ← e2, ← d2, ← c2, ← b2, ← a2, ← t2, ← n2]
  exact k2.symm

theorem rep_good {r : Rep} (h : r.right = true) : toB 3 r.kind = true ∧ toB 8 r.hs = true ∧ toB 8 r.rs = true ∧ toB 8 r.nm = true ∧ toB 8 r.cs = true ∧ toB 65535 r.hf = true ∧ toB 65535 r.hu = true ∧ toB 65535 r.rv = true ∧ toB 65535 r.rb = true ∧ toB 65535 r.cf = true ∧ toB 1114112 r.cc = true ∧ r.lt.length ≤ 16 ∧ r.ln.length ≤ 20 ∧ (∀ t ∈ r.lt, tabOk t = true) ∧ (∀ x ∈ r.ln, nmOk x = true) :=
  (enc_good (kind := r.kind) (hs := r.hs) (hf := r.hf) (hu := r.hu) (rs := r.rs) (rv := r.rv) (rb := r.rb) (nm := r.nm) (cs := r.cs) (cf := r.cf) (cc := r.cc) (lt := r.lt) (ln := r.ln) h).2

theorem drep_full {r : Rep} (h : r.right = true) : drep (r.bytes, false) = (r, ([], false)) := by
  obtain ⟨v0, v1, v2, v3, v4, u1, u2, u3, u4, u5, u6, p1, p2, p3, p4⟩ := rep_good h
  clear h
  obtain ⟨kind, lt, hs, hf, hu, rs, rv, rb, nm, ln, cs, cf, cc⟩ := r
  simp only at v0 v1 v2 v3 v4 u1 u2 u3 u4 u5 u6 p1 p2 p3 p4
  obtain ⟨kind, rfl, e0⟩ := toB_nat v0
  obtain ⟨hs, rfl, e1⟩ := toB_nat v1
  obtain ⟨rs, rfl, e2⟩ := toB_nat v2
  obtain ⟨nm, rfl, e3⟩ := toB_nat v3
  obtain ⟨cs, rfl, e4⟩ := toB_nat v4
  obtain ⟨hf, rfl, e5⟩ := toB_nat u1
  obtain ⟨hu, rfl, e6⟩ := toB_nat u2
  obtain ⟨rv, rfl, e7⟩ := toB_nat u3
  obtain ⟨rb, rfl, e8⟩ := toB_nat u4
  obtain ⟨cf, rfl, e9⟩ := toB_nat u5
  obtain ⟨cc, rfl, e10⟩ := toB_nat u6
  unfold Rep.bytes drep
  simp only [Int.toNat_natCast]
  rw [dnum1_full kind (by omega)]
  simp only
  rw [dnum1_full lt.length (by omega)]
  simp only
  rw [dlist_full lt _ _ (fun a ha r => dtab_full a (p3 a ha) r _)]
  simp only
  rw [dnum1_full hs (by omega)]
  simp only
  rw [dnum2_full hf (by omega)]
  simp only
  rw [dnum2_full hu (by omega)]
  simp only
  rw [dnum1_full rs (by omega)]
  simp only
  rw [dnum2_full rv (by omega)]
  simp only
  rw [dnum2_full rb (by omega)]
  simp only
  rw [dnum1_full nm (by omega)]
  simp only
  rw [dnum1_full ln.length (by omega)]
  simp only
  rw [dlist_full ln _ _ (fun a ha r => dnm_full a (p4 a ha) r _)]
  simp only
  rw [dnum1_full cs (by omega)]
  simp only
  rw [dnum2_full cf (by omega)]
  simp only
  have := dnum4_full cc (by omega) [] false
  rw [List.append_nil] at this
  rw [this]

theorem decOf_some {b : List UInt8} {r : Rep} : decOf b = some r ↔ r.right = true ∧ r.bytes = b := by
  constructor
  · intro h
    unfold decOf at h
    split at h
    · rename_i c
      cases h
      exact ⟨c.2, drep_sound c.1⟩
    · cases h
  · rintro ⟨h1, rfl⟩
    unfold decOf
    rw [drep_full h1]
    simp [h1]
end Go.Proofs.YteibjmlimcpaoaaDoor

set_option linter.unusedVariables false
set_option linter.unusedSimpArgs false
namespace Go.Proofs.YteibjmlimcpaoaaDoor
open Go.RowKit Go.Sort

/-- a reader in the block p: what is left, and whether bytes were missing -/
def RdAt (p : Nat) (s : St) (w : World) : Prop := w.heap[p]? = some (.cells #[.string ⟨s.1.toArray⟩, .bool s.2] 99 (0, 0))

theorem grown_trans {w w1 w2 : World} {r : Option Nat} (h : w.grownBy w1 r) (k : w1.grownBy w2 r) : w.grownBy w2 r :=
  ⟨k.os.trans h.os, k.tape.trans h.tape, k.output.trans h.output, Nat.le_trans h.size k.size, fun i hi hn => (k.block i (Nat.lt_of_lt_of_le hi h.size) hn).trans (h.block i hi hn)⟩
theorem grown_below {w w1 : World} (r : Option Nat) (h : Below w.heap.size w w1) : w.grownBy w1 r := ⟨h.os, h.tape, h.output, h.size, fun i hi _ => h.block i hi⟩
theorem grown_set {w w1 : World} {p : Nat} (h : w.grownBy w1 (some p)) (i : Nat) (v : Value) : w.grownBy (w1.setCell ⟨p, i, none⟩ v) (some p) :=
  ⟨h.os, h.tape, h.output, by simpa [World.setCell] using h.size, fun k hk hn => by
    rw [Below.heap_setCell _ _ _ _ (fun e => hn (by rw [e]))]
    exact h.block k hk hn⟩
theorem setCell_row {w : World} {p i : Nat} {cs : Array Value} {T : TypeId} (h : w.heap[p]? = some (.cells cs T (0, 0))) (v : Value) : (w.setCell ⟨p, i, none⟩ v).heap[p]? = some (.cells (cs.setIfInBounds i v) T (0, 0)) := by
  rw [setCell_eq_setRow w p i cs T (0, 0) v h]
  exact setRow_heap w p cs _ T _ h

theorem ba_take (l : List UInt8) (n : Nat) : (ByteArray.mk l.toArray).extract 0 n = ⟨(l.take n).toArray⟩ := by
  apply ByteArray.ext
  simp [ByteArray.data_extract]
theorem ba_drop (l : List UInt8) (n : Nat) : (ByteArray.mk l.toArray).extract n l.length = ⟨(l.drop n).toArray⟩ := by
  apply ByteArray.ext
  simp [ByteArray.data_extract]
  exact List.take_of_length_le (by simp)
theorem ba_size (l : List UInt8) : (ByteArray.mk l.toArray).size = l.length := by
  show Array.size _ = _
  simp

set_option maxRecDepth 100000 in
set_option maxHeartbeats 1000000 in
theorem take81 (p n : Nat) (s : St) (w : World) (hn : n ≤ 1000) (hl : s.1.length ≤ 9223372036854775807) (h : RdAt p s w) :
    Calls Tryd.prog 137 #[.pointer (some ⟨p, 0, none⟩), .int .i64 n] w fun e w' => e = .returned (.string ⟨(dtake n s).1.toArray⟩) ∧ RdAt p (dtake n s).2 w' ∧ w.grownBy w' (some p) := by
  obtain ⟨l, sh⟩ := s
  simp only at hl
  unfold RdAt at h
  simp only at h
  have x0 := cellsAt h 0
  have x1 := cellsAt h 1
  have f0 := frozenAt h 0
  have f1 := frozenAt h 1
  simp only [List.getElem?_toArray, List.getElem?_cons_zero, List.getElem?_cons_succ] at x0 x1
  have hz := ba_size l
  unfold dtake RdAt
  simp only
  obtain ⟨S, hS⟩ : ∃ S : ByteArray, ByteArray.mk l.toArray = S := ⟨_, rfl⟩
  by_cases c : l.length < n
  · rw [if_pos c]
    simp only
    have hr := setCell_row (i := 1) h (.bool true)
    rw [hS] at x0 hz hr ⊢
    have c' : (S.size : Int) < (n : Int) := by omega
    clear h
    go_enter Tryd.func137, Tryd.ntmps137
    go_wp2
    go_ret
    exact ⟨rfl, hr, grown_set (World.grownBy.refl _ _) _ _⟩
  · rw [if_neg c]
    simp only
    have hr := setCell_row (i := 0) h (.string ⟨(l.drop n).toArray⟩)
    have e1 := ba_take l n
    have e2 := ba_drop l n
    rw [hS] at x0 hz e1 e2
    have c' : ¬ (S.size : Int) < (n : Int) := by omega
    have c2 : (n : Int) ≤ (S.size : Int) := by omega
    clear h
    go_enter Tryd.func137, Tryd.ntmps137
    go_wp2
    go_ret
    exact ⟨rfl, hr, grown_set (World.grownBy.refl _ _) _ _⟩

theorem belowAt' {w w' : World} {k : Nat} {o : Obj} (hb : Below w.heap.size w w') (h : w.heap[k]? = some o) : w'.heap[k]? = some o := by
  rw [hb.block k (Array.getElem?_eq_some_iff.1 h).1]
  exact h
theorem conv_bytes (w : World) (t : List UInt8) : ∃ cap w2, (convert 9 62 (.string ⟨t.toArray⟩)).run Tryd.prog w = .ok (.slice (some ⟨w.heap.size, 0, none⟩) t.length cap) w2 ∧ Below w.heap.size w w2 ∧ ∀ (j : Nat) (a : UInt8), t[j]? = some a → w2.cell? ⟨w.heap.size, j, none⟩ = some (.int .u8 (a.toNat : Nat)) := by
  have h := run_bytes_of_string (P := Tryd.prog) w 9 62 5 ⟨t.toArray⟩ Tryd.underlying9 Tryd.underlying62 Tryd.underlying5
  have hz := ba_size t
  refine ⟨_, _, by rw [h, hz], (Below.refl _ _).drew.alloc (Nat.le_refl _) _, ?_⟩
  intro j a hj
  have hlt : j < t.length := (List.getElem?_eq_some_iff.1 hj).1
  have he : t[j] = a := Option.some.inj ((List.getElem?_eq_getElem hlt).symm.trans hj)
  have hc := cellsAt (allocAt w.drew (.cells (bytesRow ⟨t.toArray⟩ (grownCap w t.length 0 5)) 5 ((bytesRow ⟨t.toArray⟩ (grownCap w t.length 0 5)).size, (bytesRow ⟨t.toArray⟩ (grownCap w t.length 0 5)).size + 1))) j
  have hd : (w.drew.heap.size) = w.heap.size := rfl
  rw [hd] at hc
  rw [hc, bytesRow_at _ _ _ (by simpa using hlt)]
  simp [he]
theorem wraps_i64 (n : Int) (h0 : 0 ≤ n) (h1 : n < 2 ^ 63) : IntKind.i64.wrap n = n := wrapL n h0 (by omega)
theorem or8 (x y : Int) (h1 : 0 ≤ x) (h2 : x % 256 = 0) (h3 : x < 9223372036854775808) (h4 : 0 ≤ y) (h5 : y < 256) : bits .or .i64 x y = x + y :=
  bits_join .i64 63 (by decide) wraps_i64 8 x y h1 h2 h3 h4 h5 (by omega)
theorem beGo_lt : ∀ (l : List UInt8) (n : Nat), beGo n l < (n + 1) * 256 ^ l.length
  | [], n => by simp [beGo]
  | a :: l, n => by
    have h := beGo_lt l (256 * n + a.toNat)
    have := a.toNat_lt
    rw [beGo, List.length_cons, Nat.pow_succ]
    refine Nat.lt_of_lt_of_le h ?_
    have h2 : 256 * n + a.toNat + 1 ≤ (n + 1) * 256 := by omega
    calc (256 * n + a.toNat + 1) * 256 ^ l.length ≤ ((n + 1) * 256) * 256 ^ l.length := Nat.mul_le_mul_right _ h2
      _ = (n + 1) * (256 ^ l.length * 256) := by rw [Nat.mul_assoc, Nat.mul_comm 256]

set_option maxRecDepth 100000 in
set_option maxHeartbeats 1000000 in
theorem num76 (p n : Nat) (s : St) (w : World) (hn : n ≤ 4) (hl : s.1.length ≤ 9223372036854775807) (h : RdAt p s w) :
    Calls Tryd.prog 117 #[.pointer (some ⟨p, 0, none⟩), .int .i64 n] w fun e w' => e = .returned (.int .i64 ((dnum n s).1 : Nat)) ∧ RdAt p (dnum n s).2 w' ∧ w.grownBy w' (some p) := by
  have A := Lib.hid (take81 p n s w (by omega) hl h)
  unfold dnum
  have hlen : (dtake n s).1.length ≤ 4 := by
    unfold dtake
    split
    · simp
    · simp only [List.length_take]; omega
  obtain ⟨t, s', hd⟩ : ∃ t s', dtake n s = (t, s') := ⟨_, _, rfl⟩
  rw [hd] at A hlen ⊢
  simp only at A hlen ⊢
  clear hd h hl
  go_enter Tryd.func117, Tryd.ntmps117
  go_wp2_with (go_at_call 137; refine A.out.mono ?_; rintro e w1 ⟨rfl, h1, g1⟩; refine Hid.out ?_)
  obtain ⟨cap, w2, hcv, hb2, hcell⟩ := conv_bytes w1 t
  have h2 : RdAt p s' w2 := belowAt' hb2 h1
  have g2 := grown_trans g1 (grown_below _ hb2)
  clear h1 g1 A
  refine Lib.hid ?_
  go_wp2
  go_loopw [5, 13] (fun ns is wr => ∃ (k acc : Nat), ns = .int .i64 (acc : Int) ∧ is = .int .i64 (k : Int) ∧ k ≤ t.length ∧ wr = w2 ∧ acc < 256 ^ k ∧ Hid (beGo acc (t.drop k) = beL t)) (fun _ is _ => t.length - (intOf is).toNat)
  case atStart => exact ⟨0, 0, rfl, rfl, Nat.zero_le _, rfl, by decide, rfl⟩
  case round =>
    obtain ⟨k, acc, rfl, rfl, hk, rfl, hacc, H⟩ := hrel
    have hp : (256 : Nat) ^ k ≤ 256 ^ 4 := Nat.pow_le_pow_right (by decide) (by omega)
    have hp4 : (256 : Nat) ^ 4 = 4294967296 := by decide
    have ha : acc < 4294967296 := by omega
    by_cases hlt : k < t.length
    · obtain ⟨a, hx⟩ : ∃ a, t[k]? = some a := ⟨_, List.getElem?_eq_getElem hlt⟩
      have c0 := hcell k a hx
      have hdr : t.drop k = a :: t.drop (k + 1) := by
        rw [List.drop_eq_getElem_cons hlt]
        congr 1
        exact Option.some.inj ((List.getElem?_eq_getElem hlt).symm.trans hx)
      have h1 := H.out
      rw [hdr, beGo] at h1
      have H1 := Lib.hid h1
      have hal := a.toNat_lt
      have hnx : 256 * acc + a.toNat < 256 ^ (k + 1) := by rw [Nat.pow_succ]; omega
      have HNX := Lib.hid hnx
      obtain ⟨y, hy⟩ : ∃ y : Nat, a.toNat = y := ⟨_, rfl⟩
      rw [hy] at c0 hal
      have hor := or8 ((acc : Int) * 256) (y : Int) (by omega) (by omega) (by omega) (by omega) (by omega)
      have w3 := wrapL ((acc : Int) * 256) (by omega) (by omega)
      have w4 : wrap64 (y : Int) = (y : Int) := by unfold wrap64; omega
      have HY := Lib.hid hy
      clear hdr h1 H hx hnx hy hp hp4 hacc hcell
      go_wp2
      refine ⟨⟨k + 1, 256 * acc + a.toNat, ?_, by go_num, by omega, by first | rfl | trivial, HNX.out, H1⟩, by simp [intOf]; omega⟩
      rw [HY.out]
      first | (congr 1; omega) | (rw [hor]; congr 1; omega)
    · have h1 := H.out
      rw [List.drop_eq_nil_of_le (by omega), beGo] at h1
      have H1 := Lib.hid h1
      have hge : ¬ ((k : Int) < (t.length : Int)) := by omega
      clear h1 H hp hp4 hacc
      go_wp2
      go_ret
      refine ⟨?_, h2, g2⟩
      rw [H1.out]
      rfl
end Go.Proofs.YteibjmlimcpaoaaDoor

set_option linter.unusedVariables false
set_option linter.unusedSimpArgs false
namespace Go.Proofs.YteibjmlimcpaoaaDoor
open Go.RowKit Go.Sort

def laysClone_ren : Go.Shelf.Ren := ⟨fun | 25 => 157 | n => n, fun | 9 => 9 | 4 => 4 | 3 => 3 | 5 => 5 | 0 => 0 | 37 => 62 | 47 => 170 | n => n, fun | n => n⟩
theorem laysClone : Go.Proofs.LaysPu.n25 Tryd.prog laysClone_ren := {
  mixed := by kernel_rfl
  f25 := Tryd.func157.trans (congrArg some (by kernel_rfl))
  t0 := Tryd.underlying0
  a0 := Tryd.isAgg0
  z0 := Tryd.sizeOf0
  v0 := Tryd.zeroValue0
  t3 := Tryd.underlying3
  a3 := Tryd.isAgg3
  z3 := Tryd.sizeOf3
  v3 := Tryd.zeroValue3
  t4 := Tryd.underlying4
  a4 := Tryd.isAgg4
  z4 := Tryd.sizeOf4
  v4 := Tryd.zeroValue4
  t5 := Tryd.underlying5
  a5 := Tryd.isAgg5
  z5 := Tryd.sizeOf5
  v5 := Tryd.zeroValue5
  t9 := Tryd.underlying9
  a9 := Tryd.isAgg9
  z9 := Tryd.sizeOf9
  v9 := Tryd.zeroValue9
  t37 := Tryd.underlying62
  a37 := Tryd.isAgg62
  z37 := Tryd.sizeOf62
  v37 := Tryd.zeroValue62
  t47 := Tryd.underlying170
  a47 := Tryd.isAgg170
  z47 := Tryd.sizeOf170
  v47 := Tryd.zeroValue170
  i0 := by kernel_rfl
  i3 := by kernel_rfl
  i4 := by kernel_rfl
  i5 := by kernel_rfl
  i9 := by kernel_rfl
  i37 := by kernel_rfl
  i47 := by kernel_rfl }
theorem clone82 (s : ByteArray) (w : World) (h : s.size ≤ 1000) : Calls Tryd.prog 138 #[.string s] w fun e w' => e = .returned (.string s) ∧ Below w.heap.size w w' := by
  have A := Lib.hid (fun w => AnyPu.stringslite_Clone laysClone s w (by omega))
  go_enter Tryd.func138, Tryd.ntmps138
  go_wp2_with (go_at_call 157; refine (A.out _).mono ?_; rintro e w1 ⟨rfl, hb1⟩)
  go_ret
  exact ⟨rfl, hb1⟩

theorem dtake_le (n : Nat) (s : St) : (dtake n s).2.1.length ≤ s.1.length := by
  unfold dtake
  split
  · exact Nat.le_refl _
  · simp only [List.length_drop]; omega
theorem dtake_len (n : Nat) (s : St) : (dtake n s).1.length ≤ n := by
  unfold dtake
  split
  · simp
  · simp only [List.length_take]; omega
theorem dnum_le (n : Nat) (s : St) : (dnum n s).2.1.length ≤ s.1.length := dtake_le n s
theorem dnum1_lt (s : St) : (dnum 1 s).1 < 256 := by
  have h := beGo_lt (dtake 1 s).1 0
  have h2 := dtake_len 1 s
  have h3 : 256 ^ (dtake 1 s).1.length ≤ 256 ^ 1 := Nat.pow_le_pow_right (by decide) h2
  show beGo 0 _ < _
  omega

set_option maxRecDepth 100000 in
theorem rone (p : Nat) (s : St) (w : World) (hl : s.1.length ≤ 9223372036854775807) (h : RdAt p s w) :
    Calls Tryd.prog 87 #[.pointer (some ⟨p, 0, none⟩)] w fun e w' => e = .returned (.int .i64 ((dnum 1 s).1 : Nat)) ∧ RdAt p (dnum 1 s).2 w' ∧ w.grownBy w' (some p) := by
  have A := Lib.hid (num76 p 1 s w (by omega) hl h)
  generalize dnum 1 s = x at *
  go_enter Tryd.func87, Tryd.ntmps87
  go_wp2_with (go_at_call 117; refine A.out.mono ?_; rintro e w1 ⟨rfl, h1, g1⟩)
  go_ret
  exact ⟨rfl, h1, g1⟩
set_option maxRecDepth 100000 in
theorem rtwo (p : Nat) (s : St) (w : World) (hl : s.1.length ≤ 9223372036854775807) (h : RdAt p s w) :
    Calls Tryd.prog 90 #[.pointer (some ⟨p, 0, none⟩)] w fun e w' => e = .returned (.int .i64 ((dnum 2 s).1 : Nat)) ∧ RdAt p (dnum 2 s).2 w' ∧ w.grownBy w' (some p) := by
  have A := Lib.hid (num76 p 2 s w (by omega) hl h)
  generalize dnum 2 s = x at *
  go_enter Tryd.func90, Tryd.ntmps90
  go_wp2_with (go_at_call 117; refine A.out.mono ?_; rintro e w1 ⟨rfl, h1, g1⟩)
  go_ret
  exact ⟨rfl, h1, g1⟩
set_option maxRecDepth 100000 in
theorem rfour (p : Nat) (s : St) (w : World) (hl : s.1.length ≤ 9223372036854775807) (h : RdAt p s w) :
    Calls Tryd.prog 93 #[.pointer (some ⟨p, 0, none⟩)] w fun e w' => e = .returned (.int .i64 ((dnum 4 s).1 : Nat)) ∧ RdAt p (dnum 4 s).2 w' ∧ w.grownBy w' (some p) := by
  have A := Lib.hid (num76 p 4 s w (by omega) hl h)
  generalize dnum 4 s = x at *
  go_enter Tryd.func93, Tryd.ntmps93
  go_wp2_with (go_at_call 117; refine A.out.mono ?_; rintro e w1 ⟨rfl, h1, g1⟩)
  go_ret
  exact ⟨rfl, h1, g1⟩
set_option maxRecDepth 100000 in
theorem rbytes (p n : Nat) (s : St) (w : World) (hn : n ≤ 256) (hl : s.1.length ≤ 9223372036854775807) (h : RdAt p s w) :
    Calls Tryd.prog 118 #[.pointer (some ⟨p, 0, none⟩), .int .i64 n] w fun e w' => e = .returned (.string ⟨(dtake n s).1.toArray⟩) ∧ RdAt p (dtake n s).2 w' ∧ w.grownBy w' (some p) := by
  have A := Lib.hid (take81 p n s w (by omega) hl h)
  have hz := ba_size (dtake n s).1
  have hz2 := dtake_len n s
  have C := Lib.hid (fun w => clone82 ⟨(dtake n s).1.toArray⟩ w (by omega))
  generalize dtake n s = x at *
  go_enter Tryd.func118, Tryd.ntmps118
  go_wp2_with (go_at_call 137; refine A.out.mono ?_; rintro e w1 ⟨rfl, h1, g1⟩; refine Hid.out ?_)
  refine Lib.hid ?_
  go_wp2_with (go_at_call 138; refine (C.out _).mono ?_; rintro e w2 ⟨rfl, hb2⟩)
  go_ret
  exact ⟨rfl, belowAt' hb2 h1, grown_trans g1 (grown_below _ hb2)⟩

theorem rd_alloc {p : Nat} {s : St} {w : World} (h : RdAt p s w) (o : Obj) : RdAt p s (w.alloc o) := allocOldN h
theorem grownAt {w w' : World} {k p : Nat} {o : Obj} (h : w.heap[k]? = some o) (g : w.grownBy w' (some p)) (hne : k ≠ p) : w'.heap[k]? = some o := by
  rw [g.block k (Array.getElem?_eq_some_iff.1 h).1 (fun e => hne (Option.some.inj e))]
  exact h
theorem grown_new {w w1 : World} {r : Option Nat} {k : Nat} (h : w.grownBy w1 r) (hk : w.heap.size ≤ k) (i : Nat) (v : Value) : w.grownBy (w1.setCell ⟨k, i, none⟩ v) r :=
  ⟨h.os, h.tape, h.output, by simpa [World.setCell] using h.size, fun j hj hn => by
    rw [Below.heap_setCell _ _ _ _ (show j ≠ k by omega)]
    exact h.block j hj hn⟩
theorem grown_setAll {w : World} {r : Option Nat} {k : Nat} (hk : w.heap.size ≤ k) : ∀ (vs : List Value) (i : Nat) (w1 : World), w.grownBy w1 r → w.grownBy (setAll w1 k i vs) r
  | [], i, w1, h => h
  | v :: vs, i, w1, h => grown_setAll hk vs (i + 1) _ (grown_new h hk i v)
theorem rd_setAll {p k : Nat} {s : St} {w : World} (h : RdAt p s w) (hne : p ≠ k) (i : Nat) (vs : List Value) : RdAt p s (setAll w k i vs) := (setAll_other k vs i w p hne).trans h
theorem rd_lt {p : Nat} {s : St} {w : World} (h : RdAt p s w) : p < w.heap.size := (Array.getElem?_eq_some_iff.1 h).1

set_option maxRecDepth 100000 in
set_option maxHeartbeats 1000000 in
theorem rtable (p : Nat) (s : St) (w : World) (hl : s.1.length ≤ 9223372036854775807) (h : RdAt p s w) :
    Calls Tryd.prog 89 #[.pointer (some ⟨p, 0, none⟩)] w fun e w' => e = .returned (.agg #[.string (dtab s).1.tag, .int .i64 (dtab s).1.st, .int .i64 (dtab s).1.sz]) ∧ RdAt p (dtab s).2 w' ∧ w.grownBy w' (some p) := by
  unfold dtab
  simp only
  have hlt := rd_lt h
  have A := Lib.hid (rbytes p 4 s _ (by omega) hl (rd_alloc h (.cells #[.string ⟨#[]⟩, .int .i64 0, .int .i64 0] 77)))
  have l1 := dtake_le 4 s
  have B := Lib.hid (fun w h => rone p (dtake 4 s).2 w (by omega) h)
  have l2 := dnum_le 1 (dtake 4 s).2
  have C := Lib.hid (fun w h => rtwo p (dnum 1 (dtake 4 s).2).2 w (by omega) h)
  have r0 := allocAt w (.cells #[.string ⟨#[]⟩, .int .i64 0, .int .i64 0] 77)
  have g0 := World.grownBy_alloc w (.cells #[.string ⟨#[]⟩, .int .i64 0, .int .i64 0] 77) (some p)
  generalize dtake 4 s = x at *
  generalize dnum 1 x.2 = y at *
  generalize dnum 2 y.2 = z at *
  go_enter Tryd.func89, Tryd.ntmps89
  go_wp2_with (go_at_call 118; refine A.out.mono ?_; rintro e w1 ⟨rfl, h1, g1⟩; refine Hid.out ?_)
  refine Lib.hid ?_
  go_wp2_with (go_at_call 87; refine (B.out _ h1).mono ?_; rintro e w2 ⟨rfl, h2, g2⟩; refine Hid.out ?_)
  refine Lib.hid ?_
  go_wp2_with (go_at_call 90; refine (C.out _ h2).mono ?_; rintro e w3 ⟨rfl, h3, g3⟩; refine Hid.out ?_)
  have r3 := grownAt (grownAt (grownAt r0 g1 (by omega)) g2 (by omega)) g3 (by omega)
  have gw := grown_trans g0 (grown_trans g1 (grown_trans g2 g3))
  clear r0 g0 g1 g2 g3 h1 h2 A B C
  have x0 := cellsAt r3 0
  have x1 := cellsAt r3 1
  have x2 := cellsAt r3 2
  have f0 := frozenAt r3 0
  have f1 := frozenAt r3 1
  have f2 := frozenAt r3 2
  simp only [List.getElem?_toArray, List.getElem?_cons_zero, List.getElem?_cons_succ] at x0 x1 x2
  refine Lib.hid ?_
  go_wp2
  exact bodyPost_ret (v := .agg #[.string ⟨x.1.toArray⟩, .int .i64 (y.1 : Nat), .int .i64 (z.1 : Nat)]) (by simp [results, Tryd.results89, go_sem, x0, x1, x2]) rfl
    ⟨rfl, rd_setAll h3 (by omega) 0 [.string ⟨x.1.toArray⟩, .int .i64 (y.1 : Nat), .int .i64 (z.1 : Nat)], grown_setAll (Nat.le_refl _) [.string ⟨x.1.toArray⟩, .int .i64 (y.1 : Nat), .int .i64 (z.1 : Nat)] 0 w3 gw⟩

set_option maxRecDepth 100000 in
set_option maxHeartbeats 2000000 in
theorem rname (p : Nat) (s : St) (w : World) (hl : s.1.length ≤ 9223372036854775807) (h : RdAt p s w) :
    Calls Tryd.prog 92 #[.pointer (some ⟨p, 0, none⟩)] w fun e w' => e = .returned (.agg #[.int .i64 (dnm s).1.pl, .int .i64 (dnm s).1.en, .int .i64 (dnm s).1.la, .int .i64 (dnm s).1.id, .int .i64 (dnm s).1.st, .int .i64 (dnm s).1.ms, .string (dnm s).1.tx]) ∧ RdAt p (dnm s).2 w' ∧ w.grownBy w' (some p) := by
  unfold dnm
  simp only
  have hlt := rd_lt h
  have h0 := rd_alloc h (.cells #[.int .i64 0, .int .i64 0, .int .i64 0, .int .i64 0, .int .i64 0, .int .i64 0, .string ⟨#[]⟩] 79)
  have r0 := allocAt w (.cells #[.int .i64 0, .int .i64 0, .int .i64 0, .int .i64 0, .int .i64 0, .int .i64 0, .string ⟨#[]⟩] 79)
  have g0 := World.grownBy_alloc w (.cells #[.int .i64 0, .int .i64 0, .int .i64 0, .int .i64 0, .int .i64 0, .int .i64 0, .string ⟨#[]⟩] 79) (some p)
  have A := Lib.hid (fun w h => rtwo p s w hl h)
  have l1 := dnum_le 2 s
  generalize dnum 2 s = a at *
  have B := Lib.hid (fun w h => rtwo p a.2 w (by omega) h)
  have l2 := dnum_le 2 a.2
  generalize dnum 2 a.2 = b at *
  have C := Lib.hid (fun w h => rtwo p b.2 w (by omega) h)
  have l3 := dnum_le 2 b.2
  generalize dnum 2 b.2 = c at *
  have D := Lib.hid (fun w h => rtwo p c.2 w (by omega) h)
  have l4 := dnum_le 2 c.2
  generalize dnum 2 c.2 = d at *
  have E := Lib.hid (fun w h => rone p d.2 w (by omega) h)
  have l5 := dnum_le 1 d.2
  generalize dnum 1 d.2 = e at *
  have F := Lib.hid (fun w h => rone p e.2 w (by omega) h)
  have l6 := dnum_le 1 e.2
  generalize dnum 1 e.2 = f at *
  have G := Lib.hid (fun w h => rone p f.2 w (by omega) h)
  have l7 := dnum_le 1 f.2
  have hg := dnum1_lt f.2
  generalize dnum 1 f.2 = g at *
  have X := Lib.hid (fun w h => rbytes p g.1 g.2 w (by omega) (by omega) h)
  generalize dtake g.1 g.2 = x at *
  go_enter Tryd.func92, Tryd.ntmps92
  go_wp2_with (go_at_call 90; refine (A.out _ h0).mono ?_; rintro e' w1 ⟨rfl, h1, g1⟩; refine Hid.out ?_)
  refine Lib.hid ?_
  go_wp2_with (go_at_call 90; refine (B.out _ h1).mono ?_; rintro e' w2 ⟨rfl, h2, g2⟩; refine Hid.out ?_)
  refine Lib.hid ?_
  go_wp2_with (go_at_call 90; refine (C.out _ h2).mono ?_; rintro e' w3 ⟨rfl, h3, g3⟩; refine Hid.out ?_)
  refine Lib.hid ?_
  go_wp2_with (go_at_call 90; refine (D.out _ h3).mono ?_; rintro e' w4 ⟨rfl, h4, g4⟩; refine Hid.out ?_)
  refine Lib.hid ?_
  go_wp2_with (go_at_call 87; refine (E.out _ h4).mono ?_; rintro e' w5 ⟨rfl, h5, g5⟩; refine Hid.out ?_)
  refine Lib.hid ?_
  go_wp2_with (go_at_call 87; refine (F.out _ h5).mono ?_; rintro e' w6 ⟨rfl, h6, g6⟩; refine Hid.out ?_)
  refine Lib.hid ?_
  go_wp2_with (go_at_call 87; refine (G.out _ h6).mono ?_; rintro e' w7 ⟨rfl, h7, g7⟩; refine Hid.out ?_)
  refine Lib.hid ?_
  go_wp2_with (go_at_call 118; refine (X.out _ h7).mono ?_; rintro e' w8 ⟨rfl, h8, g8⟩; refine Hid.out ?_)
  have gg := grown_trans g1 (grown_trans g2 (grown_trans g3 (grown_trans g4 (grown_trans g5 (grown_trans g6 (grown_trans g7 g8))))))
  have r8 := grownAt r0 gg (by omega)
  have gw := grown_trans g0 gg
  clear r0 g0 g1 g2 g3 g4 g5 g6 g7 g8 h0 h1 h2 h3 h4 h5 h6 h7 A B C D E F G X
  have x0 := cellsAt r8 0
  have x1 := cellsAt r8 1
  have x2 := cellsAt r8 2
  have x3 := cellsAt r8 3
  have x4 := cellsAt r8 4
  have x5 := cellsAt r8 5
  have x6 := cellsAt r8 6
  have f0 := frozenAt r8 0
  have f1 := frozenAt r8 1
  have f2 := frozenAt r8 2
  have f3 := frozenAt r8 3
  have f4 := frozenAt r8 4
  have f5 := frozenAt r8 5
  have f6 := frozenAt r8 6
  simp only [List.getElem?_toArray, List.getElem?_cons_zero, List.getElem?_cons_succ] at x0 x1 x2 x3 x4 x5 x6
  refine Lib.hid ?_
  go_wp2
  exact bodyPost_ret (v := .agg #[.int .i64 (a.1 : Nat), .int .i64 (b.1 : Nat), .int .i64 (c.1 : Nat), .int .i64 (d.1 : Nat), .int .i64 (e.1 : Nat), .int .i64 (f.1 : Nat), .string ⟨x.1.toArray⟩]) (by simp [results, Tryd.results92, go_sem, x0, x1, x2, x3, x4, x5, x6]) rfl
    ⟨rfl, rd_setAll h8 (by omega) 0 [.int .i64 (a.1 : Nat), .int .i64 (b.1 : Nat), .int .i64 (c.1 : Nat), .int .i64 (d.1 : Nat), .int .i64 (e.1 : Nat), .int .i64 (f.1 : Nat), .string ⟨x.1.toArray⟩], grown_setAll (Nat.le_refl _) [.int .i64 (a.1 : Nat), .int .i64 (b.1 : Nat), .int .i64 (c.1 : Nat), .int .i64 (d.1 : Nat), .int .i64 (e.1 : Nat), .int .i64 (f.1 : Nat), .string ⟨x.1.toArray⟩] 0 w8 gw⟩
end Go.Proofs.YteibjmlimcpaoaaDoor

set_option linter.unusedVariables false
set_option linter.unusedSimpArgs false
namespace Go.Proofs.YteibjmlimcpaoaaDoor
open Go.RowKit Go.Sort

theorem dtab_le (s : St) : (dtab s).2.1.length ≤ s.1.length := by
  unfold dtab
  simp only
  exact Nat.le_trans (dnum_le _ _) (Nat.le_trans (dnum_le _ _) (dtake_le _ _))
theorem dnm_le (s : St) : (dnm s).2.1.length ≤ s.1.length := by
  unfold dnm
  simp only
  exact Nat.le_trans (dtake_le _ _) (Nat.le_trans (dnum_le _ _) (Nat.le_trans (dnum_le _ _) (Nat.le_trans (dnum_le _ _) (Nat.le_trans (dnum_le _ _) (Nat.le_trans (dnum_le _ _) (Nat.le_trans (dnum_le _ _) (dnum_le _ _)))))))
/-- a row that lies in new memory is not an old block -/
theorem own_ne_old' {w : World} {B p e size n : Nat} {v : Value} {xs : List Value} (h : w.ownsRow B e size v n xs) (hp : p < B) : v.ownBlock ≠ some p := by
  intro e
  have := (h.lt p e).1
  omega
theorem own_ne_old {w : World} {B p e size n : Nat} {v : Value} {xs : List Value} (h : w.ownsRow B e size v n xs) (hp : p < B) : v.ownBlock = none ∨ v.ownBlock ≠ some p := .inr (own_ne_old' h hp)
theorem grown_row {w w1 w2 : World} {r row : Option Nat} (h : w.grownBy w1 r) (k : w1.grownBy w2 row) (hr : ∀ j, row = some j → w.heap.size ≤ j) : w.grownBy w2 r :=
  ⟨k.os.trans h.os, k.tape.trans h.tape, k.output.trans h.output, Nat.le_trans h.size k.size, fun i hi hn => (k.block i (Nat.lt_of_lt_of_le hi h.size) (fun e => by have := hr i e.symm; omega)).trans (h.block i hi hn)⟩

set_option maxRecDepth 100000 in
set_option maxHeartbeats 2000000 in
theorem rlistT (p n : Nat) (s : St) (w : World) (hn : n ≤ 255) (hl : s.1.length ≤ 9223372036854775807) (h : RdAt p s w) (L : List Tab) (S : St) (hL : (dlist dtab n s).1 = L) (hS : (dlist dtab n s).2 = S) :
    Calls Tryd.prog 88 #[.int .i64 n, .func (.func 89) #[.pointer (some ⟨p, 0, none⟩)] #[]] w fun e w' => ∃ v, e = .returned v ∧ w'.ownsRow w.heap.size 77 3 v n (tcells L) ∧ RdAt p S w' ∧ w.grownBy w' (some p) := by
  obtain ⟨i0, hi, hz0, hz1, hz2⟩ := info_parts infoT
  have hplt := rd_lt h
  go_enter Tryd.func88, Tryd.ntmps88
  go_wp2
  go_loopw [5, 7] (fun os is wr => ∃ (k : Nat) (st : St) (acc : List Tab), is = .int .i64 (k : Int) ∧ k ≤ n ∧ acc.length = k ∧ st.1.length ≤ 9223372036854775807 ∧ RdAt p st wr ∧ w.grownBy wr (some p) ∧ wr.ownsRow w.heap.size 77 3 os k (tcells acc) ∧ Hid (acc ++ (dlist dtab (n - k) st).1 = L) ∧ Hid ((dlist dtab (n - k) st).2 = S)) (fun _ is _ => n - (intOf is).toNat)
  case atStart => exact ⟨0, s, [], rfl, Nat.zero_le _, rfl, hl, h, World.grownBy.refl _ _, World.ownsRow_nil _ _ _ _, by show _ = _; simpa using hL, by show _ = _; simpa using hS⟩
  case round =>
    obtain ⟨k, st, acc, rfl, hk, hacc, hst, hr, hg, hown, H1, H2⟩ := hrel
    clear hL hS h
    by_cases hklt : k < n
    · obtain ⟨m, hm⟩ : ∃ m, n - k = m + 1 := ⟨n - k - 1, by omega⟩
      have h1 := H1.out
      have h2 := H2.out
      rw [hm, dlist] at h1 h2
      simp only at h1 h2
      have hm' : n - (k + 1) = m := by omega
      rw [← hm'] at h1 h2
      have A := Lib.hid (rtable p st wr hst hr)
      have hle : (dtab st).2.1.length ≤ st.1.length := dtab_le st
      obtain ⟨x, st', hx⟩ : ∃ x st', dtab st = (x, st') := ⟨_, _, rfl⟩
      rw [hx] at h1 h2 A hle
      obtain ⟨tag, st1, sz⟩ := x
      simp only at h1 h2 A hle
      have K1 : Hid ((acc ++ [⟨tag, st1, sz⟩]) ++ (dlist dtab (n - (k + 1)) st').1 = L) := by show _ = _; rw [← h1]; simp
      have K2 := Lib.hid h2
      clear hx h1 h2 H1 H2 hm hm' m
      have ik1 : (k : Int) < (n : Int) := by omega
      go_wp2_with (go_at_call 89; refine A.out.mono ?_; rintro e w1 ⟨rfl, r1, g1⟩; refine Hid.out ?_)
      have own1 : w1.ownsRow w.heap.size 77 3 _ k (tcells acc) := hown.kept g1 (own_ne_old hown hplt)
      have hg1 := grown_trans hg g1
      clear hr hown A hg
      refine Lib.hid ?_
      go_wp2_with (at_builtin; refine wpList_append_own _ rfl _ _ 28 rfl w.heap.size 77 i0 (.agg #[.string ⟨#[]⟩, .int .i64 0, .int .i64 0]) 3 32 Tryd.underlying28 hi hz0 hz1 hz2 rfl (by decide) _ _ _ rfl (own1.alloc _) ⟨w1.heap.size, 0, none⟩ 1 1 (tcells [⟨tag, st1, sz⟩]) rfl rfl (newCells _ _ _) (tcells_one _) (by unfold maxLen; omega) (by omega) (by have := hg1.size; simp; omega) ?_; intro v' w3 hown' hgrow3 hnil3; refine Hid.out ?_)
      have own3 : w3.ownsRow w.heap.size 77 3 v' (k + 1) (tcells (acc ++ [⟨tag, st1, sz⟩])) := by
        rw [tcells_append]
        exact hown'
      have r3 : RdAt p st' w3 := (hgrow3.block p (by have := hg1.size; simp; omega) (fun e => own_ne_old' own1 hplt e.symm)).trans (allocOldN r1)
      have g3 : w.grownBy w3 (some p) := grown_row (grown_trans hg1 (World.grownBy_alloc _ _ _)) hgrow3 (fun j hj => (own1.lt _ hj).1)
      clear hown' hgrow3 hnil3 own1 hg1 r1 g1
      refine Lib.hid ?_
      go_wp2
      refine ⟨⟨k + 1, st', acc ++ [⟨tag, st1, sz⟩], by go_num, by omega, by simp [hacc], by omega, r3, g3, own3, K1, K2⟩, by simp [intOf]; omega⟩
    · have h1 := H1.out
      have h2 := H2.out
      have hkn : k = n := by omega
      subst hkn
      rw [Nat.sub_self, dlist] at h1 h2
      simp only [List.append_nil] at h1 h2
      subst h1 h2
      obtain ⟨ao, n', cap, hv⟩ : ∃ ao n' cap, u5 = .slice ao n' cap := by
        rcases hown.2 with ⟨hv, _⟩ | ⟨g, cap, cur, hv, _⟩
        · exact ⟨_, _, _, hv⟩
        · exact ⟨_, _, _, hv⟩
      subst hv
      clear H1 H2
      go_wp2
      go_ret
      exact ⟨_, rfl, hown, hr, hg⟩

set_option maxRecDepth 100000 in
set_option maxHeartbeats 2000000 in
theorem rlistN (p n : Nat) (s : St) (w : World) (hn : n ≤ 255) (hl : s.1.length ≤ 9223372036854775807) (h : RdAt p s w) (L : List Nm) (S : St) (hL : (dlist dnm n s).1 = L) (hS : (dlist dnm n s).2 = S) :
    Calls Tryd.prog 91 #[.int .i64 n, .func (.func 92) #[.pointer (some ⟨p, 0, none⟩)] #[]] w fun e w' => ∃ v, e = .returned v ∧ w'.ownsRow w.heap.size 79 7 v n (ncells L) ∧ RdAt p S w' ∧ w.grownBy w' (some p) := by
  obtain ⟨i0, hi, hz0, hz1, hz2⟩ := info_parts infoN
  have hplt := rd_lt h
  go_enter Tryd.func91, Tryd.ntmps91
  go_wp2
  go_loopw [5, 7] (fun os is wr => ∃ (k : Nat) (st : St) (acc : List Nm), is = .int .i64 (k : Int) ∧ k ≤ n ∧ acc.length = k ∧ st.1.length ≤ 9223372036854775807 ∧ RdAt p st wr ∧ w.grownBy wr (some p) ∧ wr.ownsRow w.heap.size 79 7 os k (ncells acc) ∧ Hid (acc ++ (dlist dnm (n - k) st).1 = L) ∧ Hid ((dlist dnm (n - k) st).2 = S)) (fun _ is _ => n - (intOf is).toNat)
  case atStart => exact ⟨0, s, [], rfl, Nat.zero_le _, rfl, hl, h, World.grownBy.refl _ _, World.ownsRow_nil _ _ _ _, by show _ = _; simpa using hL, by show _ = _; simpa using hS⟩
  case round =>
    obtain ⟨k, st, acc, rfl, hk, hacc, hst, hr, hg, hown, H1, H2⟩ := hrel
    clear hL hS h
    by_cases hklt : k < n
    · obtain ⟨m, hm⟩ : ∃ m, n - k = m + 1 := ⟨n - k - 1, by omega⟩
      have h1 := H1.out
      have h2 := H2.out
      rw [hm, dlist] at h1 h2
      simp only at h1 h2
      have hm' : n - (k + 1) = m := by omega
      rw [← hm'] at h1 h2
      have A := Lib.hid (rname p st wr hst hr)
      have hle : (dnm st).2.1.length ≤ st.1.length := dnm_le st
      obtain ⟨x, st', hx⟩ : ∃ x st', dnm st = (x, st') := ⟨_, _, rfl⟩
      rw [hx] at h1 h2 A hle
      obtain ⟨pl, en, la, id, st1, ms, tx⟩ := x
      simp only at h1 h2 A hle
      have K1 : Hid ((acc ++ [⟨pl, en, la, id, st1, ms, tx⟩]) ++ (dlist dnm (n - (k + 1)) st').1 = L) := by show _ = _; rw [← h1]; simp
      have K2 := Lib.hid h2
      clear hx h1 h2 H1 H2 hm hm' m
      have ik1 : (k : Int) < (n : Int) := by omega
      go_wp2_with (go_at_call 92; refine A.out.mono ?_; rintro e w1 ⟨rfl, r1, g1⟩; refine Hid.out ?_)
      have own1 : w1.ownsRow w.heap.size 79 7 _ k (ncells acc) := hown.kept g1 (own_ne_old hown hplt)
      have hg1 := grown_trans hg g1
      clear hr hown A hg
      refine Lib.hid ?_
      go_wp2_with (at_builtin; refine wpList_append_own _ rfl _ _ 33 rfl w.heap.size 79 i0 (.agg #[.int .i64 0, .int .i64 0, .int .i64 0, .int .i64 0, .int .i64 0, .int .i64 0, .string ⟨#[]⟩]) 7 64 Tryd.underlying33 hi hz0 hz1 hz2 rfl (by decide) _ _ _ rfl (own1.alloc _) ⟨w1.heap.size, 0, none⟩ 1 1 (ncells [⟨pl, en, la, id, st1, ms, tx⟩]) rfl rfl (newCells _ _ _) (ncells_one _) (by unfold maxLen; omega) (by omega) (by have := hg1.size; simp; omega) ?_; intro v' w3 hown' hgrow3 hnil3; refine Hid.out ?_)
      have own3 : w3.ownsRow w.heap.size 79 7 v' (k + 1) (ncells (acc ++ [⟨pl, en, la, id, st1, ms, tx⟩])) := by
        rw [ncells_append]
        exact hown'
      have r3 : RdAt p st' w3 := (hgrow3.block p (by have := hg1.size; simp; omega) (fun e => own_ne_old' own1 hplt e.symm)).trans (allocOldN r1)
      have g3 : w.grownBy w3 (some p) := grown_row (grown_trans hg1 (World.grownBy_alloc _ _ _)) hgrow3 (fun j hj => (own1.lt _ hj).1)
      clear hown' hgrow3 hnil3 own1 hg1 r1 g1
      refine Lib.hid ?_
      go_wp2
      refine ⟨⟨k + 1, st', acc ++ [⟨pl, en, la, id, st1, ms, tx⟩], by go_num, by omega, by simp [hacc], by omega, r3, g3, own3, K1, K2⟩, by simp [intOf]; omega⟩
    · have h1 := H1.out
      have h2 := H2.out
      have hkn : k = n := by omega
      subst hkn
      rw [Nat.sub_self, dlist] at h1 h2
      simp only [List.append_nil] at h1 h2
      subst h1 h2
      obtain ⟨ao, n', cap, hv⟩ : ∃ ao n' cap, u5 = .slice ao n' cap := by
        rcases hown.2 with ⟨hv, _⟩ | ⟨g, cap, cur, hv, _⟩
        · exact ⟨_, _, _, hv⟩
        · exact ⟨_, _, _, hv⟩
      subst hv
      clear H1 H2
      go_wp2
      go_ret
      exact ⟨_, rfl, hown, hr, hg⟩
end Go.Proofs.YteibjmlimcpaoaaDoor

set_option linter.unusedVariables false
set_option linter.unusedSimpArgs false
namespace Go.Proofs.YteibjmlimcpaoaaDoor
open Go.RowKit Go.Sort

theorem dlist_le {α : Type} (f : St → α × St) (hf : ∀ s, (f s).2.1.length ≤ s.1.length) : ∀ (n : Nat) (s : St), (dlist f n s).2.1.length ≤ s.1.length
  | 0, s => Nat.le_refl _
  | n + 1, s => by
    simp only [dlist]
    exact Nat.le_trans (dlist_le f hf n _) (hf s)

theorem own_mono {w : World} {B B' e size n : Nat} {v : Value} {xs : List Value} (h : w.ownsRow B e size v n xs) (hb : B' ≤ B) : w.ownsRow B' e size v n xs := by
  obtain ⟨h1, h2 | ⟨g, cap, cur, e1, e2, e3⟩⟩ := h
  · exact ⟨h1, .inl h2⟩
  · exact ⟨h1, .inr ⟨g, cap, cur, e1, Nat.le_trans hb e2, e3⟩⟩
theorem own_setAll {k B e size n : Nat} {v : Value} {xs : List Value} : ∀ {w : World}, w.ownsRow B e size v n xs → v.ownBlock ≠ some k → ∀ (vs : List Value) (i : Nat), (setAll w k i vs).ownsRow B e size v n xs
  | w, h, hne, [], i => h
  | w, h, hne, x :: vs, i => own_setAll (ownsRow_setCell_other h (a := ⟨k, i, none⟩) hne x) hne vs (i + 1)
theorem own_ne37 {w : World} {k B e size n : Nat} {v : Value} {xs : List Value} {cs : Array Value} {fz : Nat × Nat} (h : w.heap[k]? = some (.cells cs 37 fz)) (ho : w.ownsRow B e size v n xs) (he : (37 : Nat) ≠ e) : v.ownBlock ≠ some k := by
  intro hk
  obtain ⟨c, fz', h2⟩ := Lib.ownsRow_kind ho k hk
  rw [h] at h2
  cases h2
  exact he rfl

def Rep.val (r : Rep) (T N : Value) : Value := .agg #[.int .i64 r.kind, T, .int .i64 r.hs, .int .i64 r.hf, .int .i64 r.hu, .int .i64 r.rs, .int .i64 r.rv, .int .i64 r.rb, .int .i64 r.nm, N, .int .i64 r.cs, .int .i64 r.cf, .int .i64 r.cc]

set_option maxRecDepth 100000 in
set_option maxHeartbeats 4000000 in
theorem rep49 (p : Nat) (s : St) (w : World) (hl : s.1.length ≤ 9223372036854775807) (h : RdAt p s w) :
    Calls Tryd.prog 59 #[.pointer (some ⟨p, 0, none⟩)] w fun e' w' => ∃ T N, e' = .returned ((drep s).1.val T N) ∧ w'.ownsRow w.heap.size 77 3 T (drep s).1.lt.length (tcells (drep s).1.lt) ∧ w'.ownsRow w.heap.size 79 7 N (drep s).1.ln.length (ncells (drep s).1.ln) ∧ (T.ownBlock = none ∨ T.ownBlock ≠ N.ownBlock) ∧ RdAt p (drep s).2 w' ∧ w.grownBy w' (some p) := by
  unfold drep Rep.val
  simp only [dlist_length]
  have hplt := rd_lt h
  have h0 := rd_alloc h (.cells #[.int .i64 0, .slice none 0 0, .int .i64 0, .int .i64 0, .int .i64 0, .int .i64 0, .int .i64 0, .int .i64 0, .int .i64 0, .slice none 0 0, .int .i64 0, .int .i64 0, .int .i64 0] 37)
  have r0 := allocAt w (.cells #[.int .i64 0, .slice none 0 0, .int .i64 0, .int .i64 0, .int .i64 0, .int .i64 0, .int .i64 0, .int .i64 0, .int .i64 0, .slice none 0 0, .int .i64 0, .int .i64 0, .int .i64 0] 37)
  have g0 := World.grownBy_alloc w (.cells #[.int .i64 0, .slice none 0 0, .int .i64 0, .int .i64 0, .int .i64 0, .int .i64 0, .int .i64 0, .int .i64 0, .int .i64 0, .slice none 0 0, .int .i64 0, .int .i64 0, .int .i64 0] 37) (some p)
  have WK := Lib.hid (fun w h => rone p s w (by omega) h)
  have lk := dnum_le 1 s
  generalize dnum 1 s = k at *
  have WN := Lib.hid (fun w h => rone p k.2 w (by omega) h)
  have ln := dnum_le 1 k.2
  have bn := dnum1_lt k.2
  generalize dnum 1 k.2 = n at *
  have WT := Lib.hid (fun w h => rlistT p n.1 n.2 w (by omega) (by omega) h _ _ rfl rfl)
  have lt := dlist_le dtab dtab_le n.1 n.2
  generalize dlist dtab n.1 n.2 = t at *
  have WA := Lib.hid (fun w h => rone p t.2 w (by omega) h)
  have la := dnum_le 1 t.2
  generalize dnum 1 t.2 = a at *
  have WB := Lib.hid (fun w h => rtwo p a.2 w (by omega) h)
  have lb := dnum_le 2 a.2
  generalize dnum 2 a.2 = b at *
  have WC := Lib.hid (fun w h => rtwo p b.2 w (by omega) h)
  have lc := dnum_le 2 b.2
  generalize dnum 2 b.2 = c at *
  have WD := Lib.hid (fun w h => rone p c.2 w (by omega) h)
  have ld := dnum_le 1 c.2
  generalize dnum 1 c.2 = d at *
  have WE := Lib.hid (fun w h => rtwo p d.2 w (by omega) h)
  have le := dnum_le 2 d.2
  generalize dnum 2 d.2 = e at *
  have WF := Lib.hid (fun w h => rtwo p e.2 w (by omega) h)
  have lf := dnum_le 2 e.2
  generalize dnum 2 e.2 = f at *
  have WG := Lib.hid (fun w h => rone p f.2 w (by omega) h)
  have lg := dnum_le 1 f.2
  generalize dnum 1 f.2 = g at *
  have WM := Lib.hid (fun w h => rone p g.2 w (by omega) h)
  have lm := dnum_le 1 g.2
  have bm := dnum1_lt g.2
  generalize dnum 1 g.2 = m at *
  have WX := Lib.hid (fun w h => rlistN p m.1 m.2 w (by omega) (by omega) h _ _ rfl rfl)
  have lx := dlist_le dnm dnm_le m.1 m.2
  generalize dlist dnm m.1 m.2 = x at *
  have WU := Lib.hid (fun w h => rone p x.2 w (by omega) h)
  have lu := dnum_le 1 x.2
  generalize dnum 1 x.2 = u at *
  have WV := Lib.hid (fun w h => rtwo p u.2 w (by omega) h)
  have lv := dnum_le 2 u.2
  generalize dnum 2 u.2 = v at *
  have WY := Lib.hid (fun w h => rfour p v.2 w (by omega) h)
  have ly := dnum_le 4 v.2
  generalize dnum 4 v.2 = y at *
  go_enter Tryd.func59, Tryd.ntmps59
  go_wp2_with (go_at_call 87; refine (WK.out _ h0).mono ?_; rintro e' w1 ⟨rfl, h1, g1⟩; refine Hid.out ?_)
  refine Lib.hid ?_
  go_wp2_with (go_at_call 87; refine (WN.out _ h1).mono ?_; rintro e' w2 ⟨rfl, h2, g2⟩; refine Hid.out ?_)
  refine Lib.hid ?_
  go_wp2_with (go_at_call 88; refine (WT.out _ h2).mono ?_; rintro e' w3 ⟨T, rfl, oT, h3, g3⟩; refine Hid.out ?_)
  have s3 : w.heap.size ≤ w2.heap.size := Nat.le_trans g0.size (Nat.le_trans g1.size g2.size)
  have oT3 : w3.ownsRow w.heap.size 77 3 T n.1 (tcells t.1) := own_mono oT s3
  clear oT
  obtain ⟨Ta, Tn, Tc, hTe⟩ : ∃ ao n' cap, T = .slice ao n' cap := by
    rcases oT3.2 with ⟨hv, _⟩ | ⟨_, _, _, hv, _⟩
    · exact ⟨_, _, _, hv⟩
    · exact ⟨_, _, _, hv⟩
  subst hTe
  refine Lib.hid ?_
  go_wp2_with (go_at_call 87; refine (WA.out _ h3).mono ?_; rintro e' w4 ⟨rfl, h4, g4⟩; refine Hid.out ?_)
  have oT4 := oT3.kept g4 (own_ne_old oT3 hplt)
  clear oT3
  refine Lib.hid ?_
  go_wp2_with (go_at_call 90; refine (WB.out _ h4).mono ?_; rintro e' w5 ⟨rfl, h5, g5⟩; refine Hid.out ?_)
  have oT5 := oT4.kept g5 (own_ne_old oT4 hplt)
  clear oT4
  refine Lib.hid ?_
  go_wp2_with (go_at_call 90; refine (WC.out _ h5).mono ?_; rintro e' w6 ⟨rfl, h6, g6⟩; refine Hid.out ?_)
  have oT6 := oT5.kept g6 (own_ne_old oT5 hplt)
  clear oT5
  refine Lib.hid ?_
  go_wp2_with (go_at_call 87; refine (WD.out _ h6).mono ?_; rintro e' w7 ⟨rfl, h7, g7⟩; refine Hid.out ?_)
  have oT7 := oT6.kept g7 (own_ne_old oT6 hplt)
  clear oT6
  refine Lib.hid ?_
  go_wp2_with (go_at_call 90; refine (WE.out _ h7).mono ?_; rintro e' w8 ⟨rfl, h8, g8⟩; refine Hid.out ?_)
  have oT8 := oT7.kept g8 (own_ne_old oT7 hplt)
  clear oT7
  refine Lib.hid ?_
  go_wp2_with (go_at_call 90; refine (WF.out _ h8).mono ?_; rintro e' w9 ⟨rfl, h9, g9⟩; refine Hid.out ?_)
  have oT9 := oT8.kept g9 (own_ne_old oT8 hplt)
  clear oT8
  refine Lib.hid ?_
  go_wp2_with (go_at_call 87; refine (WG.out _ h9).mono ?_; rintro e' w10 ⟨rfl, h10, g10⟩; refine Hid.out ?_)
  have oT10 := oT9.kept g10 (own_ne_old oT9 hplt)
  clear oT9
  refine Lib.hid ?_
  go_wp2_with (go_at_call 87; refine (WM.out _ h10).mono ?_; rintro e' w11 ⟨rfl, h11, g11⟩; refine Hid.out ?_)
  have oT11 := oT10.kept g11 (own_ne_old oT10 hplt)
  clear oT10
  refine Lib.hid ?_
  go_wp2_with (go_at_call 91; refine (WX.out _ h11).mono ?_; rintro e' w12 ⟨N, rfl, oN, h12, g12⟩; refine Hid.out ?_)
  have s12 : w.heap.size ≤ w11.heap.size := Nat.le_trans g0.size (Nat.le_trans g1.size (Nat.le_trans g2.size (Nat.le_trans g3.size (Nat.le_trans g4.size (Nat.le_trans g5.size (Nat.le_trans g6.size (Nat.le_trans g7.size (Nat.le_trans g8.size (Nat.le_trans g9.size (Nat.le_trans g10.size g11.size))))))))))
  have oN12 : w12.ownsRow w.heap.size 79 7 N m.1 (ncells x.1) := own_mono oN s12
  have hTN : (Value.slice Ta Tn Tc).ownBlock = none ∨ (Value.slice Ta Tn Tc).ownBlock ≠ N.ownBlock := by
    cases hb : (Value.slice Ta Tn Tc).ownBlock with
    | none => exact .inl rfl
    | some q =>
      right
      intro e
      have q1 := (oT11.lt q hb).2
      have q2 := (oN.lt q e.symm).1
      omega
  have oT12 := oT11.kept g12 (own_ne_old oT11 hplt)
  clear oT11 oN
  obtain ⟨Na, Nn, Nc, hNe⟩ : ∃ ao n' cap, N = .slice ao n' cap := by
    rcases oN12.2 with ⟨hv, _⟩ | ⟨_, _, _, hv, _⟩
    · exact ⟨_, _, _, hv⟩
    · exact ⟨_, _, _, hv⟩
  subst hNe
  refine Lib.hid ?_
  go_wp2_with (go_at_call 87; refine (WU.out _ h12).mono ?_; rintro e' w13 ⟨rfl, h13, g13⟩; refine Hid.out ?_)
  have oT13 := oT12.kept g13 (own_ne_old oT12 hplt)
  clear oT12
  have oN13 := oN12.kept g13 (own_ne_old oN12 hplt)
  clear oN12
  refine Lib.hid ?_
  go_wp2_with (go_at_call 90; refine (WV.out _ h13).mono ?_; rintro e' w14 ⟨rfl, h14, g14⟩; refine Hid.out ?_)
  have oT14 := oT13.kept g14 (own_ne_old oT13 hplt)
  clear oT13
  have oN14 := oN13.kept g14 (own_ne_old oN13 hplt)
  clear oN13
  refine Lib.hid ?_
  go_wp2_with (go_at_call 93; refine (WY.out _ h14).mono ?_; rintro e' w15 ⟨rfl, h15, g15⟩; refine Hid.out ?_)
  have oT15 := oT14.kept g15 (own_ne_old oT14 hplt)
  clear oT14
  have oN15 := oN14.kept g15 (own_ne_old oN14 hplt)
  clear oN14
  have gg := (grown_trans g1 (grown_trans g2 (grown_trans g3 (grown_trans g4 (grown_trans g5 (grown_trans g6 (grown_trans g7 (grown_trans g8 (grown_trans g9 (grown_trans g10 (grown_trans g11 (grown_trans g12 (grown_trans g13 (grown_trans g14 g15))))))))))))))
  have rr := grownAt r0 gg (by omega)
  have gw := grown_trans g0 gg
  clear r0 gg g0 g1 g2 g3 g4 g5 g6 g7 g8 g9 g10 g11 g12 g13 g14 g15 h0 h1 h2 h3 h4 h5 h6 h7 h8 h9 h10 h11 h12 h13 h14 WK WN WT WA WB WC WD WE WF WG WM WX WU WV WY
  have z0 := cellsAt rr 0
  have f0 := frozenAt rr 0
  have z1 := cellsAt rr 1
  have f1 := frozenAt rr 1
  have z2 := cellsAt rr 2
  have f2 := frozenAt rr 2
  have z3 := cellsAt rr 3
  have f3 := frozenAt rr 3
  have z4 := cellsAt rr 4
  have f4 := frozenAt rr 4
  have z5 := cellsAt rr 5
  have f5 := frozenAt rr 5
  have z6 := cellsAt rr 6
  have f6 := frozenAt rr 6
  have z7 := cellsAt rr 7
  have f7 := frozenAt rr 7
  have z8 := cellsAt rr 8
  have f8 := frozenAt rr 8
  have z9 := cellsAt rr 9
  have f9 := frozenAt rr 9
  have z10 := cellsAt rr 10
  have f10 := frozenAt rr 10
  have z11 := cellsAt rr 11
  have f11 := frozenAt rr 11
  have z12 := cellsAt rr 12
  have f12 := frozenAt rr 12
  simp only [List.getElem?_toArray, List.getElem?_cons_zero, List.getElem?_cons_succ] at z0 z1 z2 z3 z4 z5 z6 z7 z8 z9 z10 z11 z12
  have bE : w.grownBy (setAll w15 w.heap.size 0 [.int .i64 (k.1 : Nat), .slice Ta Tn Tc, .int .i64 (a.1 : Nat), .int .i64 (b.1 : Nat), .int .i64 (c.1 : Nat), .int .i64 (d.1 : Nat), .int .i64 (e.1 : Nat), .int .i64 (f.1 : Nat), .int .i64 (g.1 : Nat), .slice Na Nn Nc, .int .i64 (u.1 : Nat), .int .i64 (v.1 : Nat), .int .i64 (y.1 : Nat)]) (some p) := grown_setAll (Nat.le_refl _) _ _ _ gw
  have rE : RdAt p y.2 (setAll w15 w.heap.size 0 [.int .i64 (k.1 : Nat), .slice Ta Tn Tc, .int .i64 (a.1 : Nat), .int .i64 (b.1 : Nat), .int .i64 (c.1 : Nat), .int .i64 (d.1 : Nat), .int .i64 (e.1 : Nat), .int .i64 (f.1 : Nat), .int .i64 (g.1 : Nat), .slice Na Nn Nc, .int .i64 (u.1 : Nat), .int .i64 (v.1 : Nat), .int .i64 (y.1 : Nat)]) := rd_setAll h15 (by omega) _ _
  have tE : (setAll w15 w.heap.size 0 [.int .i64 (k.1 : Nat), .slice Ta Tn Tc, .int .i64 (a.1 : Nat), .int .i64 (b.1 : Nat), .int .i64 (c.1 : Nat), .int .i64 (d.1 : Nat), .int .i64 (e.1 : Nat), .int .i64 (f.1 : Nat), .int .i64 (g.1 : Nat), .slice Na Nn Nc, .int .i64 (u.1 : Nat), .int .i64 (v.1 : Nat), .int .i64 (y.1 : Nat)]).ownsRow w.heap.size 77 3 (.slice Ta Tn Tc) n.1 (tcells t.1) := own_setAll oT15 (own_ne37 rr oT15 (by decide)) _ _
  have nE : (setAll w15 w.heap.size 0 [.int .i64 (k.1 : Nat), .slice Ta Tn Tc, .int .i64 (a.1 : Nat), .int .i64 (b.1 : Nat), .int .i64 (c.1 : Nat), .int .i64 (d.1 : Nat), .int .i64 (e.1 : Nat), .int .i64 (f.1 : Nat), .int .i64 (g.1 : Nat), .slice Na Nn Nc, .int .i64 (u.1 : Nat), .int .i64 (v.1 : Nat), .int .i64 (y.1 : Nat)]).ownsRow w.heap.size 79 7 (.slice Na Nn Nc) m.1 (ncells x.1) := own_setAll oN15 (own_ne37 rr oN15 (by decide)) _ _
  clear oT15 oN15 h15 gw rr
  refine Lib.hid ?_
  go_wp2
  exact bodyPost_ret (v := .agg #[.int .i64 (k.1 : Nat), .slice Ta Tn Tc, .int .i64 (a.1 : Nat), .int .i64 (b.1 : Nat), .int .i64 (c.1 : Nat), .int .i64 (d.1 : Nat), .int .i64 (e.1 : Nat), .int .i64 (f.1 : Nat), .int .i64 (g.1 : Nat), .slice Na Nn Nc, .int .i64 (u.1 : Nat), .int .i64 (v.1 : Nat), .int .i64 (y.1 : Nat)]) (by simp [results, Tryd.results59, go_sem, z0, z1, z2, z3, z4, z5, z6, z7, z8, z9, z10, z11, z12]) rfl ⟨_, _, rfl, tE, nE, hTN, rE, bE⟩
end Go.Proofs.YteibjmlimcpaoaaDoor

set_option linter.unusedVariables false
set_option linter.unusedSimpArgs false
namespace Go.Proofs.YteibjmlimcpaoaaDoor
open Go.RowKit Go.Sort

def zeroR : Value := .agg #[.int .i64 0, .slice none 0 0, .int .i64 0, .int .i64 0, .int .i64 0, .int .i64 0, .int .i64 0, .int .i64 0, .int .i64 0, .slice none 0 0, .int .i64 0, .int .i64 0, .int .i64 0]

theorem rowOfOwn {w : World} {B e k : Nat} {v : Value} {n : Nat} {xs : List Value} (h : w.ownsRow B e k v n xs) : RowIs w v n xs := by
  obtain ⟨h1, ⟨rfl, rfl⟩ | ⟨g, cap, cur, rfl, hb, hg, hn, hm, hs, ht⟩⟩ := h
  · exact ⟨none, 0, rfl, fun h => by omega⟩
  · refine ⟨_, _, rfl, fun _ => ⟨g, 0, rfl, fun j u hj => ?_⟩⟩
    rw [Nat.zero_add, cellsAt hg, ← Array.getElem?_toList]
    rw [← ht, List.getElem?_take] at hj
    split at hj
    · exact hj
    · cases hj
theorem dnm_tx (s : St) : (dnm s).1.tx.size ≤ 256 := by
  unfold dnm
  simp only
  rw [ba_size]
  exact Nat.le_trans (dtake_len _ _) (Nat.le_of_lt (dnum1_lt _))
theorem dlist_tx : ∀ (n : Nat) (s : St), ∀ x ∈ (dlist dnm n s).1, x.tx.size ≤ 256
  | 0, s, x, h => by cases h
  | n + 1, s, x, h => by
    simp only [dlist, List.mem_cons] at h
    rcases h with rfl | h
    · exact dnm_tx s
    · exact dlist_tx n _ x h
theorem drep_lt (s : St) : (drep s).1.lt.length ≤ 256 := by
  unfold drep
  simp only [dlist_length]
  exact Nat.le_of_lt (dnum1_lt _)
theorem drep_ln (s : St) : (drep s).1.ln.length ≤ 256 := by
  unfold drep
  simp only [dlist_length]
  exact Nat.le_of_lt (dnum1_lt _)
theorem drep_tx (s : St) : ∀ x ∈ (drep s).1.ln, x.tx.size ≤ 256 := by
  unfold drep
  simp only
  exact dlist_tx _ _
theorem empty_iff (l : List UInt8) : (ByteArray.mk l.toArray).toList.isEmpty = l.isEmpty := by
  rw [ByteArray.toList_eq]

/-- what a Decode leaves: an answer in new memory -/
def DecIs (B : Nat) (b : List UInt8) (w : World) (v : Value) : Prop :=
  match decOf b with
  | none => v = .tuple #[zeroR, .int .i64 5]
  | some r => ∃ T N, v = .tuple #[r.val T N, .int .i64 0] ∧ w.ownsRow B 77 3 T r.lt.length (tcells r.lt) ∧ w.ownsRow B 79 7 N r.ln.length (ncells r.ln) ∧ (T.ownBlock = none ∨ T.ownBlock ≠ N.ownBlock)

set_option maxRecDepth 100000 in
set_option maxHeartbeats 4000000 in
theorem dec34_any (b : List UInt8) (w : World) (hl : b.length ≤ 9223372036854775807) (hu : Utabs w) (D : World → Value → Prop) (r : Rep) (rest : List UInt8) (sh : Bool) (hx : drep (b, false) = (r, rest, sh))
    (hbad : ∀ w', ¬ (sh = false ∧ rest = [] ∧ r.right = true) → D w' (.tuple #[zeroR, .int .i64 5]))
    (hgood : ∀ w' T N, sh = false → rest = [] → r.right = true → w'.ownsRow w.heap.size 77 3 T r.lt.length (tcells r.lt) → w'.ownsRow w.heap.size 79 7 N r.ln.length (ncells r.ln) → (T.ownBlock = none ∨ T.ownBlock ≠ N.ownBlock) → D w' (.tuple #[r.val T N, .int .i64 0])) :
    Calls Tryd.prog 41 #[.string ⟨b.toArray⟩] w fun e w' => ∃ v, e = .returned v ∧ D w' v ∧ Below w.heap.size w w' := by
  have R := Lib.hid (fun (p : Nat) (w1 : World) (h : RdAt p (b, false) w1) => rep49 p (b, false) w1 hl h)
  have q1 := drep_lt (b, false)
  have q2 := drep_ln (b, false)
  have q3 := drep_tx (b, false)
  rw [hx] at R q1 q2 q3
  simp only at R q1 q2 q3
  clear hx
  have HB := Lib.hid hbad
  have HG := Lib.hid hgood
  clear hbad hgood
  have he := empty_iff rest
  have b0 : Below w.heap.size w ((w.alloc (.cells #[.int .i64 0, .slice none 0 0, .int .i64 0, .int .i64 0, .int .i64 0, .int .i64 0, .int .i64 0, .int .i64 0, .int .i64 0, .slice none 0 0, .int .i64 0, .int .i64 0, .int .i64 0] 37)).alloc (.cells #[.string ⟨b.toArray⟩, .bool false] 99)) := ((Below.refl _ _).alloc (Nat.le_refl _) _).alloc (by simp) _
  have r0 := allocOldN (o' := .cells #[.string ⟨b.toArray⟩, .bool false] 99) (allocAt w (.cells #[.int .i64 0, .slice none 0 0, .int .i64 0, .int .i64 0, .int .i64 0, .int .i64 0, .int .i64 0, .int .i64 0, .int .i64 0, .slice none 0 0, .int .i64 0, .int .i64 0, .int .i64 0] 37))
  have rd0 : RdAt (w.heap.size + 1) (b, false) ((w.alloc (.cells #[.int .i64 0, .slice none 0 0, .int .i64 0, .int .i64 0, .int .i64 0, .int .i64 0, .int .i64 0, .int .i64 0, .int .i64 0, .slice none 0 0, .int .i64 0, .int .i64 0, .int .i64 0] 37)).alloc (.cells #[.string ⟨b.toArray⟩, .bool false] 99)) := allocAtN _ _ _ (by simp)
  go_enter Tryd.func41, Tryd.ntmps41
  go_wp2_with (go_at_call 59; refine (R.out _ _ rd0).mono ?_; rintro e w1 ⟨T, N, rfl, oT, oN, hTN, rd1, g1⟩; refine Hid.out ?_)
  have b1 := b0.grown g1 b0.size (fun k hk => by cases hk; omega)
  have r1 := grownAt r0 g1 (by omega)
  have oT1 := own_mono (B' := w.heap.size) oT b0.size
  have oN1 := own_mono (B' := w.heap.size) oN b0.size
  have s1 := g1.size
  simp at s1
  clear R b0 r0 rd0 g1 oT oN
  obtain ⟨Ta, Tn, Tc, hTe⟩ : ∃ ao n' cap, T = .slice ao n' cap := by
    rcases oT1.2 with ⟨hv, _⟩ | ⟨_, _, _, hv, _⟩
    · exact ⟨_, _, _, hv⟩
    · exact ⟨_, _, _, hv⟩
  obtain ⟨Na, Nn, Nc, hNe⟩ : ∃ ao n' cap, N = .slice ao n' cap := by
    rcases oN1.2 with ⟨hv, _⟩ | ⟨_, _, _, hv, _⟩
    · exact ⟨_, _, _, hv⟩
    · exact ⟨_, _, _, hv⟩
  subst hTe hNe
  unfold RdAt at rd1
  simp only at rd1
  unfold Rep.val
  have b2 : Below w.heap.size w (w1.alloc (.cells #[.int .i64 r.kind, .slice Ta Tn Tc, .int .i64 r.hs, .int .i64 r.hf, .int .i64 r.hu, .int .i64 r.rs, .int .i64 r.rv, .int .i64 r.rb, .int .i64 r.nm, .slice Na Nn Nc, .int .i64 r.cs, .int .i64 r.cf, .int .i64 r.cc] 37)) := b1.alloc b1.size _
  have r2 := allocOldN (o' := .cells #[.int .i64 r.kind, .slice Ta Tn Tc, .int .i64 r.hs, .int .i64 r.hf, .int .i64 r.hu, .int .i64 r.rs, .int .i64 r.rv, .int .i64 r.rb, .int .i64 r.nm, .slice Na Nn Nc, .int .i64 r.cs, .int .i64 r.cf, .int .i64 r.cc] 37) r1
  have rd2 := allocOldN (o' := .cells #[.int .i64 r.kind, .slice Ta Tn Tc, .int .i64 r.hs, .int .i64 r.hf, .int .i64 r.hu, .int .i64 r.rs, .int .i64 r.rv, .int .i64 r.rb, .int .i64 r.nm, .slice Na Nn Nc, .int .i64 r.cs, .int .i64 r.cf, .int .i64 r.cc] 37) rd1
  have x0 := cellsAt rd2 0
  have x1 := cellsAt rd2 1
  simp only [List.getElem?_toArray, List.getElem?_cons_zero, List.getElem?_cons_succ] at x0 x1
  have R2 := Lib.hid (fun (w2 : World) (hb : Below w.heap.size w w2) hT hN => right46 r.kind r.hs r.hf r.hu r.rs r.rv r.rb r.nm r.cs r.cf r.cc (.slice Ta Tn Tc) (.slice Na Nn Nc) r.lt r.ln w2 (by omega) (by omega) (fun x hx => by have := q3 x hx; omega) hT hN (hu.below hb))
  have hrr : rightB r.kind r.hs r.hf r.hu r.rs r.rv r.rb r.nm r.cs r.cf r.cc r.lt r.ln = r.right := rfl
  rw [hrr] at R2
  have hpx : w1.heap.size ≠ w.heap.size := by omega
  have hpy : w1.heap.size ≠ w.heap.size + 1 := by omega
  cases sh
  · cases hrest : rest with
    | cons q qs =>
      have hne : (ByteArray.mk rest.toArray).toList.isEmpty = false := by rw [he, hrest]; rfl
      rw [hrest] at hne HB HG rd1 rd2 x0
      have z0 := cellsAt r2 0
      have z1 := cellsAt r2 1
      have z2 := cellsAt r2 2
      have z3 := cellsAt r2 3
      have z4 := cellsAt r2 4
      have z5 := cellsAt r2 5
      have z6 := cellsAt r2 6
      have z7 := cellsAt r2 7
      have z8 := cellsAt r2 8
      have z9 := cellsAt r2 9
      have z10 := cellsAt r2 10
      have z11 := cellsAt r2 11
      have z12 := cellsAt r2 12
      simp only [List.getElem?_toArray, List.getElem?_cons_zero, List.getElem?_cons_succ] at z0 z1 z2 z3 z4 z5 z6 z7 z8 z9 z10 z11 z12
      have f0 := frozenAt r2 0
      have f1 := frozenAt r2 1
      have f2 := frozenAt r2 2
      have f3 := frozenAt r2 3
      have f4 := frozenAt r2 4
      have f5 := frozenAt r2 5
      have f6 := frozenAt r2 6
      have f7 := frozenAt r2 7
      have f8 := frozenAt r2 8
      have f9 := frozenAt r2 9
      have f10 := frozenAt r2 10
      have f11 := frozenAt r2 11
      have f12 := frozenAt r2 12
      clear r2 rd2 oT1 oN1 r1 rd1 R2 he hrest
      refine Lib.hid ?_
      go_wp2
      exact bodyPost_ret (v := .tuple #[zeroR, .int .i64 5]) (by simp [results, Tryd.results41, go_sem, z0, z1, z2, z3, z4, z5, z6, z7, z8, z9, z10, z11, z12, zeroR]) rfl ⟨_, rfl, HB.out _ (fun h => by cases h.2.1), setAll_below (Nat.le_refl _) [.int .i64 0, .slice none 0 0, .int .i64 0, .int .i64 0, .int .i64 0, .int .i64 0, .int .i64 0, .int .i64 0, .int .i64 0, .slice none 0 0, .int .i64 0, .int .i64 0, .int .i64 0] 0 _ _ b2⟩
    | nil =>
      have hne : (ByteArray.mk rest.toArray).toList.isEmpty = true := by rw [he, hrest]; rfl
      subst hrest
      have a2 := allocAt w1 (.cells #[.int .i64 r.kind, .slice Ta Tn Tc, .int .i64 r.hs, .int .i64 r.hf, .int .i64 r.hu, .int .i64 r.rs, .int .i64 r.rv, .int .i64 r.rb, .int .i64 r.nm, .slice Na Nn Nc, .int .i64 r.cs, .int .i64 r.cf, .int .i64 r.cc] 37)
      have y0 := cellsAt a2 0
      have y1 := cellsAt a2 1
      have y2 := cellsAt a2 2
      have y3 := cellsAt a2 3
      have y4 := cellsAt a2 4
      have y5 := cellsAt a2 5
      have y6 := cellsAt a2 6
      have y7 := cellsAt a2 7
      have y8 := cellsAt a2 8
      have y9 := cellsAt a2 9
      have y10 := cellsAt a2 10
      have y11 := cellsAt a2 11
      have y12 := cellsAt a2 12
      simp only [List.getElem?_toArray, List.getElem?_cons_zero, List.getElem?_cons_succ] at y0 y1 y2 y3 y4 y5 y6 y7 y8 y9 y10 y11 y12
      have oT2 := oT1.alloc (.cells #[.int .i64 r.kind, .slice Ta Tn Tc, .int .i64 r.hs, .int .i64 r.hf, .int .i64 r.hu, .int .i64 r.rs, .int .i64 r.rv, .int .i64 r.rb, .int .i64 r.nm, .slice Na Nn Nc, .int .i64 r.cs, .int .i64 r.cf, .int .i64 r.cc] 37)
      have oN2 := oN1.alloc (.cells #[.int .i64 r.kind, .slice Ta Tn Tc, .int .i64 r.hs, .int .i64 r.hf, .int .i64 r.hu, .int .i64 r.rs, .int .i64 r.rv, .int .i64 r.rb, .int .i64 r.nm, .slice Na Nn Nc, .int .i64 r.cs, .int .i64 r.cf, .int .i64 r.cc] 37)
      have RR := Lib.hid (R2.out _ b2 (rowOfOwn oT2) (rowOfOwn oN2))
      clear R2 oT1 oN1 r1 rd1
      cases hright : r.right
      · rw [hright] at RR
        refine Lib.hid ?_
        go_wp2_with (go_at_call 56; refine RR.out.mono ?_; rintro e w3 ⟨rfl, hb3⟩; refine Hid.out ?_)
        have b3 := b2.trans (hb3.mono b2.size)
        have r3 := belowAt' hb3 r2
        have z0 := cellsAt r3 0
        have z1 := cellsAt r3 1
        have z2 := cellsAt r3 2
        have z3 := cellsAt r3 3
        have z4 := cellsAt r3 4
        have z5 := cellsAt r3 5
        have z6 := cellsAt r3 6
        have z7 := cellsAt r3 7
        have z8 := cellsAt r3 8
        have z9 := cellsAt r3 9
        have z10 := cellsAt r3 10
        have z11 := cellsAt r3 11
        have z12 := cellsAt r3 12
        simp only [List.getElem?_toArray, List.getElem?_cons_zero, List.getElem?_cons_succ] at z0 z1 z2 z3 z4 z5 z6 z7 z8 z9 z10 z11 z12
        have f0 := frozenAt r3 0
        have f1 := frozenAt r3 1
        have f2 := frozenAt r3 2
        have f3 := frozenAt r3 3
        have f4 := frozenAt r3 4
        have f5 := frozenAt r3 5
        have f6 := frozenAt r3 6
        have f7 := frozenAt r3 7
        have f8 := frozenAt r3 8
        have f9 := frozenAt r3 9
        have f10 := frozenAt r3 10
        have f11 := frozenAt r3 11
        have f12 := frozenAt r3 12
        clear r2 rd2 r3 RR b2 hb3 oT2 oN2 y0 y1 y2 y3 y4 y5 y6 y7 y8 y9 y10 y11 y12
        refine Lib.hid ?_
        go_wp2
        exact bodyPost_ret (v := .tuple #[zeroR, .int .i64 5]) (by simp [results, Tryd.results41, go_sem, z0, z1, z2, z3, z4, z5, z6, z7, z8, z9, z10, z11, z12, zeroR]) rfl ⟨_, rfl, HB.out _ (fun h => by rw [hright] at h; cases h.2.2), setAll_below (Nat.le_refl _) [.int .i64 0, .slice none 0 0, .int .i64 0, .int .i64 0, .int .i64 0, .int .i64 0, .int .i64 0, .int .i64 0, .int .i64 0, .slice none 0 0, .int .i64 0, .int .i64 0, .int .i64 0] 0 _ _ b3⟩
      · rw [hright] at RR
        have G0 := Lib.hid (fun w' => HG.out w' (.slice Ta Tn Tc) (.slice Na Nn Nc) rfl rfl hright)
        clear HG
        refine Lib.hid ?_
        go_wp2_with (go_at_call 56; refine RR.out.mono ?_; rintro e w3 ⟨rfl, hb3⟩; refine Hid.out ?_)
        have b3 := b2.trans (hb3.mono b2.size)
        have r3 := belowAt' hb3 r2
        have a3 := belowAt' hb3 a2
        have oT3 := oT2.kept (row := none) (grown_below _ hb3) (by cases hv : (Value.slice Ta Tn Tc).ownBlock <;> simp)
        have oN3 := oN2.kept (row := none) (grown_below _ hb3) (by cases hv : (Value.slice Na Nn Nc).ownBlock <;> simp)
        have tE := own_setAll oT3 (own_ne37 r3 oT3 (by decide)) [.int .i64 r.kind, .slice Ta Tn Tc, .int .i64 r.hs, .int .i64 r.hf, .int .i64 r.hu, .int .i64 r.rs, .int .i64 r.rv, .int .i64 r.rb, .int .i64 r.nm, .slice Na Nn Nc, .int .i64 r.cs, .int .i64 r.cf, .int .i64 r.cc] 0
        have nE := own_setAll oN3 (own_ne37 r3 oN3 (by decide)) [.int .i64 r.kind, .slice Ta Tn Tc, .int .i64 r.hs, .int .i64 r.hf, .int .i64 r.hu, .int .i64 r.rs, .int .i64 r.rv, .int .i64 r.rb, .int .i64 r.nm, .slice Na Nn Nc, .int .i64 r.cs, .int .i64 r.cf, .int .i64 r.cc] 0
        have GG := Lib.hid (G0.out _ tE nE hTN)
        clear G0 tE nE
        clear y0 y1 y2 y3 y4 y5 y6 y7 y8 y9 y10 y11 y12
        have z0 := cellsAt r3 0
        have z1 := cellsAt r3 1
        have z2 := cellsAt r3 2
        have z3 := cellsAt r3 3
        have z4 := cellsAt r3 4
        have z5 := cellsAt r3 5
        have z6 := cellsAt r3 6
        have z7 := cellsAt r3 7
        have z8 := cellsAt r3 8
        have z9 := cellsAt r3 9
        have z10 := cellsAt r3 10
        have z11 := cellsAt r3 11
        have z12 := cellsAt r3 12
        simp only [List.getElem?_toArray, List.getElem?_cons_zero, List.getElem?_cons_succ] at z0 z1 z2 z3 z4 z5 z6 z7 z8 z9 z10 z11 z12
        have y0 := cellsAt a3 0
        have y1 := cellsAt a3 1
        have y2 := cellsAt a3 2
        have y3 := cellsAt a3 3
        have y4 := cellsAt a3 4
        have y5 := cellsAt a3 5
        have y6 := cellsAt a3 6
        have y7 := cellsAt a3 7
        have y8 := cellsAt a3 8
        have y9 := cellsAt a3 9
        have y10 := cellsAt a3 10
        have y11 := cellsAt a3 11
        have y12 := cellsAt a3 12
        simp only [List.getElem?_toArray, List.getElem?_cons_zero, List.getElem?_cons_succ] at y0 y1 y2 y3 y4 y5 y6 y7 y8 y9 y10 y11 y12
        have f0 := frozenAt r3 0
        have f1 := frozenAt r3 1
        have f2 := frozenAt r3 2
        have f3 := frozenAt r3 3
        have f4 := frozenAt r3 4
        have f5 := frozenAt r3 5
        have f6 := frozenAt r3 6
        have f7 := frozenAt r3 7
        have f8 := frozenAt r3 8
        have f9 := frozenAt r3 9
        have f10 := frozenAt r3 10
        have f11 := frozenAt r3 11
        have f12 := frozenAt r3 12
        clear r2 rd2 r3 RR b2 hb3 oT2 oN2 oT3 oN3 a2 a3
        refine Lib.hid ?_
        go_wp2
        exact bodyPost_ret (v := .tuple #[.agg #[.int .i64 r.kind, .slice Ta Tn Tc, .int .i64 r.hs, .int .i64 r.hf, .int .i64 r.hu, .int .i64 r.rs, .int .i64 r.rv, .int .i64 r.rb, .int .i64 r.nm, .slice Na Nn Nc, .int .i64 r.cs, .int .i64 r.cf, .int .i64 r.cc], .int .i64 0]) (by simp [results, Tryd.results41, go_sem, z0, z1, z2, z3, z4, z5, z6, z7, z8, z9, z10, z11, z12]) rfl ⟨_, rfl, GG.out, setAll_below (Nat.le_refl _) [.int .i64 r.kind, .slice Ta Tn Tc, .int .i64 r.hs, .int .i64 r.hf, .int .i64 r.hu, .int .i64 r.rs, .int .i64 r.rv, .int .i64 r.rb, .int .i64 r.nm, .slice Na Nn Nc, .int .i64 r.cs, .int .i64 r.cf, .int .i64 r.cc] 0 _ _ b3⟩
  · have z0 := cellsAt r2 0
    have z1 := cellsAt r2 1
    have z2 := cellsAt r2 2
    have z3 := cellsAt r2 3
    have z4 := cellsAt r2 4
    have z5 := cellsAt r2 5
    have z6 := cellsAt r2 6
    have z7 := cellsAt r2 7
    have z8 := cellsAt r2 8
    have z9 := cellsAt r2 9
    have z10 := cellsAt r2 10
    have z11 := cellsAt r2 11
    have z12 := cellsAt r2 12
    simp only [List.getElem?_toArray, List.getElem?_cons_zero, List.getElem?_cons_succ] at z0 z1 z2 z3 z4 z5 z6 z7 z8 z9 z10 z11 z12
    have f0 := frozenAt r2 0
    have f1 := frozenAt r2 1
    have f2 := frozenAt r2 2
    have f3 := frozenAt r2 3
    have f4 := frozenAt r2 4
    have f5 := frozenAt r2 5
    have f6 := frozenAt r2 6
    have f7 := frozenAt r2 7
    have f8 := frozenAt r2 8
    have f9 := frozenAt r2 9
    have f10 := frozenAt r2 10
    have f11 := frozenAt r2 11
    have f12 := frozenAt r2 12
    clear r2 rd2 oT1 oN1 r1 rd1 R2
    refine Lib.hid ?_
    go_wp2
    exact bodyPost_ret (v := .tuple #[zeroR, .int .i64 5]) (by simp [results, Tryd.results41, go_sem, z0, z1, z2, z3, z4, z5, z6, z7, z8, z9, z10, z11, z12, zeroR]) rfl ⟨_, rfl, HB.out _ (fun h => by cases h.1), setAll_below (Nat.le_refl _) [.int .i64 0, .slice none 0 0, .int .i64 0, .int .i64 0, .int .i64 0, .int .i64 0, .int .i64 0, .int .i64 0, .int .i64 0, .slice none 0 0, .int .i64 0, .int .i64 0, .int .i64 0] 0 _ _ b2⟩

theorem dec34 (b : List UInt8) (w : World) (hl : b.length ≤ 9223372036854775807) (hu : Utabs w) :
    Calls Tryd.prog 41 #[.string ⟨b.toArray⟩] w fun e w' => ∃ v, e = .returned v ∧ DecIs w.heap.size b w' v ∧ Below w.heap.size w w' := by
  rcases hx : drep (b, false) with ⟨r, rest, sh⟩
  refine dec34_any b w hl hu (fun w' v => DecIs w.heap.size b w' v) r rest sh hx ?_ ?_
  · intro w' hn
    unfold DecIs decOf
    rw [hx, if_neg]
    rintro ⟨h1, h2⟩
    cases h1
    exact hn ⟨rfl, rfl, h2⟩
  · intro w' T N h1 h2 h3 oT oN hTN
    subst h1 h2
    unfold DecIs decOf
    rw [hx, if_pos ⟨rfl, h3⟩]
    exact ⟨T, N, rfl, oT, oN, hTN⟩

set_option maxRecDepth 100000 in
set_option maxHeartbeats 2000000 in
theorem dec15 (b : List UInt8) (w : World) (hl : b.length ≤ 9223372036854775807) (hu : Utabs w) :
    Calls Tryd.prog 17 #[.string ⟨b.toArray⟩] w fun e w' => ∃ v, e = .returned v ∧ DecIs w.heap.size b w' v ∧ Below w.heap.size w w' := by
  have b0 : Below w.heap.size w (w.alloc (.cells #[.int .i64 0, .slice none 0 0, .int .i64 0, .int .i64 0, .int .i64 0, .int .i64 0, .int .i64 0, .int .i64 0, .int .i64 0, .slice none 0 0, .int .i64 0, .int .i64 0, .int .i64 0] 37)) := (Below.refl _ _).alloc (Nat.le_refl _) _
  have A := Lib.hid (dec34 b (w.alloc (.cells #[.int .i64 0, .slice none 0 0, .int .i64 0, .int .i64 0, .int .i64 0, .int .i64 0, .int .i64 0, .int .i64 0, .int .i64 0, .slice none 0 0, .int .i64 0, .int .i64 0, .int .i64 0] 37)) hl (hu.below b0))
  have r0 := allocAt w (.cells #[.int .i64 0, .slice none 0 0, .int .i64 0, .int .i64 0, .int .i64 0, .int .i64 0, .int .i64 0, .int .i64 0, .int .i64 0, .slice none 0 0, .int .i64 0, .int .i64 0, .int .i64 0] 37)
  unfold DecIs at A ⊢
  cases hd : decOf b with
  | none =>
    rw [hd] at A
    simp only at A ⊢
    go_enter Tryd.func17, Tryd.ntmps17
    go_wp2_with (go_at_call 41; refine A.out.mono ?_; rintro e w1 ⟨v, rfl, rfl, hb1⟩; refine Hid.out ?_)
    have b1 := b0.trans (hb1.mono b0.size)
    have r1 := belowAt' hb1 r0
    have z0 := cellsAt r1 0
    have z1 := cellsAt r1 1
    have z2 := cellsAt r1 2
    have z3 := cellsAt r1 3
    have z4 := cellsAt r1 4
    have z5 := cellsAt r1 5
    have z6 := cellsAt r1 6
    have z7 := cellsAt r1 7
    have z8 := cellsAt r1 8
    have z9 := cellsAt r1 9
    have z10 := cellsAt r1 10
    have z11 := cellsAt r1 11
    have z12 := cellsAt r1 12
    simp only [List.getElem?_toArray, List.getElem?_cons_zero, List.getElem?_cons_succ] at z0 z1 z2 z3 z4 z5 z6 z7 z8 z9 z10 z11 z12
    have f0 := frozenAt r1 0
    have f1 := frozenAt r1 1
    have f2 := frozenAt r1 2
    have f3 := frozenAt r1 3
    have f4 := frozenAt r1 4
    have f5 := frozenAt r1 5
    have f6 := frozenAt r1 6
    have f7 := frozenAt r1 7
    have f8 := frozenAt r1 8
    have f9 := frozenAt r1 9
    have f10 := frozenAt r1 10
    have f11 := frozenAt r1 11
    have f12 := frozenAt r1 12
    clear A b0 hb1 r0 r1
    unfold zeroR
    refine Lib.hid ?_
    go_wp2
    exact bodyPost_ret (v := .tuple #[zeroR, .int .i64 5]) (by simp [results, Tryd.results17, go_sem, z0, z1, z2, z3, z4, z5, z6, z7, z8, z9, z10, z11, z12, zeroR]) rfl ⟨_, rfl, rfl, setAll_below (Nat.le_refl _) [.int .i64 0, .slice none 0 0, .int .i64 0, .int .i64 0, .int .i64 0, .int .i64 0, .int .i64 0, .int .i64 0, .int .i64 0, .slice none 0 0, .int .i64 0, .int .i64 0, .int .i64 0] 0 _ _ b1⟩
  | some r =>
    rw [hd] at A
    simp only at A ⊢
    go_enter Tryd.func17, Tryd.ntmps17
    go_wp2_with (go_at_call 41; refine A.out.mono ?_; rintro e w1 ⟨v, rfl, ⟨T, N, rfl, oT, oN, hTN⟩, hb1⟩; refine Hid.out ?_)
    have b1 := b0.trans (hb1.mono b0.size)
    have r1 := belowAt' hb1 r0
    have oT1 := own_mono (B' := w.heap.size) oT b0.size
    have oN1 := own_mono (B' := w.heap.size) oN b0.size
    obtain ⟨Ta, Tn, Tc, hTe⟩ : ∃ ao n' cap, T = .slice ao n' cap := by
      rcases oT1.2 with ⟨hv, _⟩ | ⟨_, _, _, hv, _⟩
      · exact ⟨_, _, _, hv⟩
      · exact ⟨_, _, _, hv⟩
    obtain ⟨Na, Nn, Nc, hNe⟩ : ∃ ao n' cap, N = .slice ao n' cap := by
      rcases oN1.2 with ⟨hv, _⟩ | ⟨_, _, _, hv, _⟩
      · exact ⟨_, _, _, hv⟩
      · exact ⟨_, _, _, hv⟩
    subst hTe hNe
    have tE := own_setAll oT1 (own_ne37 r1 oT1 (by decide)) [.int .i64 r.kind, .slice Ta Tn Tc, .int .i64 r.hs, .int .i64 r.hf, .int .i64 r.hu, .int .i64 r.rs, .int .i64 r.rv, .int .i64 r.rb, .int .i64 r.nm, .slice Na Nn Nc, .int .i64 r.cs, .int .i64 r.cf, .int .i64 r.cc] 0
    have nE := own_setAll oN1 (own_ne37 r1 oN1 (by decide)) [.int .i64 r.kind, .slice Ta Tn Tc, .int .i64 r.hs, .int .i64 r.hf, .int .i64 r.hu, .int .i64 r.rs, .int .i64 r.rv, .int .i64 r.rb, .int .i64 r.nm, .slice Na Nn Nc, .int .i64 r.cs, .int .i64 r.cf, .int .i64 r.cc] 0
    have TE := Lib.hid tE
    have NE := Lib.hid nE
    have z0 := cellsAt r1 0
    have z1 := cellsAt r1 1
    have z2 := cellsAt r1 2
    have z3 := cellsAt r1 3
    have z4 := cellsAt r1 4
    have z5 := cellsAt r1 5
    have z6 := cellsAt r1 6
    have z7 := cellsAt r1 7
    have z8 := cellsAt r1 8
    have z9 := cellsAt r1 9
    have z10 := cellsAt r1 10
    have z11 := cellsAt r1 11
    have z12 := cellsAt r1 12
    simp only [List.getElem?_toArray, List.getElem?_cons_zero, List.getElem?_cons_succ] at z0 z1 z2 z3 z4 z5 z6 z7 z8 z9 z10 z11 z12
    have f0 := frozenAt r1 0
    have f1 := frozenAt r1 1
    have f2 := frozenAt r1 2
    have f3 := frozenAt r1 3
    have f4 := frozenAt r1 4
    have f5 := frozenAt r1 5
    have f6 := frozenAt r1 6
    have f7 := frozenAt r1 7
    have f8 := frozenAt r1 8
    have f9 := frozenAt r1 9
    have f10 := frozenAt r1 10
    have f11 := frozenAt r1 11
    have f12 := frozenAt r1 12
    clear A b0 hb1 r0 r1 oT oN oT1 oN1 tE nE
    unfold Rep.val
    refine Lib.hid ?_
    go_wp2
    exact bodyPost_ret (v := .tuple #[.agg #[.int .i64 r.kind, .slice Ta Tn Tc, .int .i64 r.hs, .int .i64 r.hf, .int .i64 r.hu, .int .i64 r.rs, .int .i64 r.rv, .int .i64 r.rb, .int .i64 r.nm, .slice Na Nn Nc, .int .i64 r.cs, .int .i64 r.cf, .int .i64 r.cc], .int .i64 0]) (by simp [results, Tryd.results17, go_sem, z0, z1, z2, z3, z4, z5, z6, z7, z8, z9, z10, z11, z12]) rfl ⟨_, rfl, ⟨_, _, rfl, TE.out, NE.out, hTN⟩, setAll_below (Nat.le_refl _) [.int .i64 r.kind, .slice Ta Tn Tc, .int .i64 r.hs, .int .i64 r.hf, .int .i64 r.hu, .int .i64 r.rs, .int .i64 r.rv, .int .i64 r.rb, .int .i64 r.nm, .slice Na Nn Nc, .int .i64 r.cs, .int .i64 r.cf, .int .i64 r.cc] 0 _ _ b1⟩
end Go.Proofs.YteibjmlimcpaoaaDoor
