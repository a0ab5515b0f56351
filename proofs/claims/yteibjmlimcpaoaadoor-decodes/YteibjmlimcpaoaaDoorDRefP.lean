/-
  Reports read from bytes as the document's answer reads them: what is missing reads as 0, and what was read counts if it is written just so. That it answers as the program's way does. No program in it.
-/
import Derived.Test.YteibjmlimcpaoaaDoorDPlain
set_option linter.unusedVariables false
set_option linter.unusedSimpArgs false
namespace Go.Proofs.YteibjmlimcpaoaaDoor

def rnum (n : Nat) (l : List UInt8) : Nat × List UInt8 := (beL (l.take n), l.drop n)
def rtab (l : List UInt8) : Tab × List UInt8 :=
  let b := rnum 1 (l.drop 4)
  let c := rnum 2 b.2
  (⟨⟨(l.take 4).toArray⟩, b.1, c.1⟩, c.2)
def rnm (l : List UInt8) : Nm × List UInt8 :=
  let a := rnum 2 l
  let b := rnum 2 a.2
  let c := rnum 2 b.2
  let d := rnum 2 c.2
  let e := rnum 1 d.2
  let f := rnum 1 e.2
  let g := rnum 1 f.2
  (⟨a.1, b.1, c.1, d.1, e.1, f.1, ⟨(g.2.take g.1).toArray⟩⟩, g.2.drop g.1)
def rlist {α : Type} (f : List UInt8 → α × List UInt8) : Nat → List UInt8 → List α × List UInt8
  | 0, s => ([], s)
  | n + 1, s => ((f s).1 :: (rlist f n (f s).2).1, (rlist f n (f s).2).2)
def rrep (l : List UInt8) : Rep :=
  let k := rnum 1 l
  let n := rnum 1 k.2
  let t := rlist rtab (min n.1 17) n.2
  let a := rnum 1 t.2
  let b := rnum 2 a.2
  let c := rnum 2 b.2
  let d := rnum 1 c.2
  let e := rnum 2 d.2
  let f := rnum 2 e.2
  let g := rnum 1 f.2
  let m := rnum 1 g.2
  let x := rlist rnm (min m.1 21) m.2
  let u := rnum 1 x.2
  let v := rnum 2 u.2
  let w := rnum 4 v.2
  ⟨k.1, t.1, a.1, b.1, c.1, d.1, e.1, f.1, g.1, x.1, u.1, v.1, w.1⟩
def refOf (b : List UInt8) : Option Rep := if (rrep b).enc = (b, 0) then some (rrep b) else none

theorem rnum1_full (n : Nat) (h : n < 256) (r : List UInt8) : rnum 1 (oneL n ++ r) = (n, r) := by
  have e : (oneL n).length = 1 := rfl
  unfold rnum
  rw [← e, List.take_left, List.drop_left, be_one n h]
theorem rnum2_full (n : Nat) (h : n < 65536) (r : List UInt8) : rnum 2 (twoL n ++ r) = (n, r) := by
  have e : (twoL n).length = 2 := rfl
  unfold rnum
  rw [← e, List.take_left, List.drop_left, be_two n h]
theorem rnum4_full (n : Nat) (h : n < 4294967296) (r : List UInt8) : rnum 4 (fourL n ++ r) = (n, r) := by
  have e : (fourL n).length = 4 := rfl
  unfold rnum
  rw [← e, List.take_left, List.drop_left, be_four n h]
theorem rlist_full {α : Type} {f : List UInt8 → α × List UInt8} {e : α → List UInt8} : ∀ (l : List α) (r : List UInt8), (∀ a ∈ l, ∀ r, f (e a ++ r) = (a, r)) → rlist f l.length (l.flatMap e ++ r) = (l, r)
  | [], r, h => by simp [rlist]
  | a :: l, r, h => by
    simp only [List.length_cons, rlist, List.flatMap_cons, List.append_assoc]
    rw [h a (by simp)]
    simp only
    rw [rlist_full l r (fun x hx => h x (by simp [hx]))]
theorem rtab_full (t : Tab) (h : tabOk t = true) (r : List UInt8) : rtab (tabL t ++ r) = (t, r) := by
  simp only [tabOk, Bool.and_eq_true, decide_eq_true_eq] at h
  obtain ⟨⟨h1, h2⟩, h3⟩ := h
  obtain ⟨tag, st, sz⟩ := t
  obtain ⟨sn, rfl, e2⟩ := toB_nat h2
  obtain ⟨zn, rfl, e3⟩ := toB_nat h3
  simp only [tabL, Int.toNat_natCast, rtab, List.append_assoc]
  have e : tag.data.toList.length = 4 := by simpa using h1
  rw [← e, List.take_left, List.drop_left, rnum1_full sn (by omega)]
  simp only
  rw [rnum2_full zn (by omega)]
theorem rnm_full (t : Nm) (h : nmOk t = true) (r : List UInt8) : rnm (nmL t ++ r) = (t, r) := by
  simp only [nmOk, Bool.and_eq_true] at h
  obtain ⟨⟨⟨⟨⟨⟨h1, h2⟩, h3⟩, h4⟩, h5⟩, h6⟩, h7⟩ := h
  have h8 := properB_size _ h7
  obtain ⟨pl, en, la, id, st, ms, tx⟩ := t
  obtain ⟨pl, rfl, e1⟩ := toB_nat h1
  obtain ⟨en, rfl, e2⟩ := toB_nat h2
  obtain ⟨la, rfl, e3⟩ := toB_nat h3
  obtain ⟨id, rfl, e4⟩ := toB_nat h4
  obtain ⟨st, rfl, e5⟩ := toB_nat h5
  obtain ⟨ms, rfl, e6⟩ := toB_nat h6
  simp only at h8
  simp only [nmL, Int.toNat_natCast, rnm, List.append_assoc]
  rw [rnum2_full pl (by omega)]
  simp only
  rw [rnum2_full en (by omega)]
  simp only
  rw [rnum2_full la (by omega)]
  simp only
  rw [rnum2_full id (by omega)]
  simp only
  rw [rnum1_full st (by omega)]
  simp only
  rw [rnum1_full ms (by omega)]
  simp only
  rw [rnum1_full tx.size (by omega)]
  simp only
  have e : tx.data.toList.length = tx.size := by simp
  rw [← e, List.take_left, List.drop_left]
theorem rrep_full {r : Rep} (h : r.right = true) : rrep r.bytes = r := by
  obtain ⟨v0, v1, v2, v3, v4, u1, u2, u3, u4, u5, u6, p1, p2, p3, p4⟩ := rep_good h
  clear h
  obtain ⟨kind, lt, hs, hf, hu, rs, rv, rb, nm, ln, cs, cf, cc⟩ := r
  simp only at v0 v1 v2 v3 v4 u1 u2 u3 u4 u5 u6 p1 p2 p3 p4
  obtain ⟨kind, rfl, e0⟩ := toB_nat v0
  obtain ⟨hs, rfl, e1⟩ := toB_nat v1
  obtain ⟨rs, rfl, e2⟩ := toB_nat v2
  obtain ⟨nm, rfl, e3⟩ := toB_nat v3
  obtain ⟨cs, rfl, e4⟩ := toB_nat v4
  obtain ⟨hf, rfl, e5⟩ := toB_nat u1
  obtain ⟨hu, rfl, e6⟩ := toB_nat u2
  obtain ⟨rv, rfl, e7⟩ := toB_nat u3
  obtain ⟨rb, rfl, e8⟩ := toB_nat u4
  obtain ⟨cf, rfl, e9⟩ := toB_nat u5
  obtain ⟨cc, rfl, e10⟩ := toB_nat u6
  unfold Rep.bytes rrep
  simp only [Int.toNat_natCast]
  rw [rnum1_full kind (by omega)]
  simp only
  rw [rnum1_full lt.length (by omega)]
  simp only
  rw [Nat.min_eq_left (by omega), rlist_full lt _ (fun a ha r => rtab_full a (p3 a ha) r)]
  simp only
  rw [rnum1_full hs (by omega)]
  simp only
  rw [rnum2_full hf (by omega)]
  simp only
  rw [rnum2_full hu (by omega)]
  simp only
  rw [rnum1_full rs (by omega)]
  simp only
  rw [rnum2_full rv (by omega)]
  simp only
  rw [rnum2_full rb (by omega)]
  simp only
  rw [rnum1_full nm (by omega)]
  simp only
  rw [rnum1_full ln.length (by omega)]
  simp only
  rw [Nat.min_eq_left (by omega), rlist_full ln _ (fun a ha r => rnm_full a (p4 a ha) r)]
  simp only
  rw [rnum1_full cs (by omega)]
  simp only
  rw [rnum2_full cf (by omega)]
  simp only
  have := rnum4_full cc (by omega) []
  rw [List.append_nil] at this
  rw [this]

theorem refOf_dec (b : List UInt8) : refOf b = decOf b := by
  cases hd : decOf b with
  | some r =>
    obtain ⟨h1, rfl⟩ := decOf_some.1 hd
    unfold refOf
    rw [rrep_full h1, if_pos (enc_right h1)]
  | none =>
    unfold refOf
    rw [if_neg]
    intro c
    cases hr : (rrep b).right with
    | false =>
      rw [enc_wrong hr] at c
      cases c
    | true =>
      have h2 := enc_right hr
      rw [c] at h2
      have h3 : (rrep b).bytes = b := (Prod.mk.inj h2).1.symm
      rw [decOf_some.2 ⟨hr, h3⟩] at hd
      cases hd
theorem rlist_length {α : Type} (f : List UInt8 → α × List UInt8) : ∀ (n : Nat) (s : List UInt8), (rlist f n s).1.length = n
  | 0, s => rfl
  | n + 1, s => by simp [rlist, rlist_length f n]
end Go.Proofs.YteibjmlimcpaoaaDoor
