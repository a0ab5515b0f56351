/-
  What report.reader's methods take and number answer, and what they leave of the reader; nothing else that lay in memory turns.
-/
import Derived.Test.YteibjmlimcpaoaaDoorDPlain
import Derived.Test.YteibjmlimcpaoaaDoorLLent
set_option linter.unusedVariables false
set_option linter.unusedSimpArgs false
namespace Go.Proofs.YteibjmlimcpaoaaDoor
open Go.RowKit Go.Sort

/-- a reader in the block p: what is left, and whether bytes were missing -/
def RdAt (p : Nat) (s : St) (w : World) : Prop := w.heap[p]? = some (.cells #[.string ⟨s.1.toArray⟩, .bool s.2] 99 (0, 0))

theorem grown_trans {w w1 w2 : World} {r : Option Nat} (h : w.grownBy w1 r) (k : w1.grownBy w2 r) : w.grownBy w2 r :=
  ⟨k.os.trans h.os, k.tape.trans h.tape, k.output.trans h.output, Nat.le_trans h.size k.size, fun i hi hn => (k.block i (Nat.lt_of_lt_of_le hi h.size) hn).trans (h.block i hi hn)⟩
theorem grown_below {w w1 : World} (r : Option Nat) (h : Below w.heap.size w w1) : w.grownBy w1 r := ⟨h.os, h.tape, h.output, h.size, fun i hi _ => h.block i hi⟩
theorem grown_set {w w1 : World} {p : Nat} (h : w.grownBy w1 (some p)) (i : Nat) (v : Value) : w.grownBy (w1.setCell ⟨p, i, none⟩ v) (some p) :=
  ⟨h.os, h.tape, h.output, by simpa [World.setCell] using h.size, fun k hk hn => by
    rw [Below.heap_setCell _ _ _ _ (fun e => hn (by rw [e]))]
    exact h.block k hk hn⟩
theorem setCell_row {w : World} {p i : Nat} {cs : Array Value} {T : TypeId} (h : w.heap[p]? = some (.cells cs T (0, 0))) (v : Value) : (w.setCell ⟨p, i, none⟩ v).heap[p]? = some (.cells (cs.setIfInBounds i v) T (0, 0)) := by
  rw [setCell_eq_setRow w p i cs T (0, 0) v h]
  exact setRow_heap w p cs _ T _ h

theorem ba_take (l : List UInt8) (n : Nat) : (ByteArray.mk l.toArray).extract 0 n = ⟨(l.take n).toArray⟩ := by
  apply ByteArray.ext
  simp [ByteArray.data_extract]
theorem ba_drop (l : List UInt8) (n : Nat) : (ByteArray.mk l.toArray).extract n l.length = ⟨(l.drop n).toArray⟩ := by
  apply ByteArray.ext
  simp [ByteArray.data_extract]
  exact List.take_of_length_le (by simp)
theorem ba_size (l : List UInt8) : (ByteArray.mk l.toArray).size = l.length := by
  show Array.size _ = _
  simp

set_option maxRecDepth 100000 in
set_option maxHeartbeats 1000000 in
theorem take81 (p n : Nat) (s : St) (w : World) (hn : n ≤ 1000) (hl : s.1.length ≤ 9223372036854775807) (h : RdAt p s w) :
    Calls Tryd.prog 137 #[.pointer (some ⟨p, 0, none⟩), .int .i64 n] w fun e w' => e = .returned (.string ⟨(dtake n s).1.toArray⟩) ∧ RdAt p (dtake n s).2 w' ∧ w.grownBy w' (some p) := by
  obtain ⟨l, sh⟩ := s
  simp only at hl
  unfold RdAt at h
  simp only at h
  have x0 := cellsAt h 0
  have x1 := cellsAt h 1
  have f0 := frozenAt h 0
  have f1 := frozenAt h 1
  simp only [List.getElem?_toArray, List.getElem?_cons_zero, List.getElem?_cons_succ] at x0 x1
  have hz := ba_size l
  unfold dtake RdAt
  simp only
  obtain ⟨S, hS⟩ : ∃ S : ByteArray, ByteArray.mk l.toArray = S := ⟨_, rfl⟩
  by_cases c : l.length < n
  · rw [if_pos c]
    simp only
    have hr := setCell_row (i := 1) h (.bool true)
    rw [hS] at x0 hz hr ⊢
    have c' : (S.size : Int) < (n : Int) := by omega
    clear h
    go_enter Tryd.func137, Tryd.ntmps137
    go_wp2
    go_ret
    exact ⟨rfl, hr, grown_set (World.grownBy.refl _ _) _ _⟩
  · rw [if_neg c]
    simp only
    have hr := setCell_row (i := 0) h (.string ⟨(l.drop n).toArray⟩)
    have e1 := ba_take l n
    have e2 := ba_drop l n
    rw [hS] at x0 hz e1 e2
    have c' : ¬ (S.size : Int) < (n : Int) := by omega
    have c2 : (n : Int) ≤ (S.size : Int) := by omega
    clear h
    go_enter Tryd.func137, Tryd.ntmps137
    go_wp2
    go_ret
    exact ⟨rfl, hr, grown_set (World.grownBy.refl _ _) _ _⟩

theorem belowAt' {w w' : World} {k : Nat} {o : Obj} (hb : Below w.heap.size w w') (h : w.heap[k]? = some o) : w'.heap[k]? = some o := by
  rw [hb.block k (Array.getElem?_eq_some_iff.1 h).1]
  exact h
theorem conv_bytes (w : World) (t : List UInt8) : ∃ cap w2, (convert 9 62 (.string ⟨t.toArray⟩)).run Tryd.prog w = .ok (.slice (some ⟨w.heap.size, 0, none⟩) t.length cap) w2 ∧ Below w.heap.size w w2 ∧ ∀ (j : Nat) (a : UInt8), t[j]? = some a → w2.cell? ⟨w.heap.size, j, none⟩ = some (.int .u8 (a.toNat : Nat)) := by
  have h := run_bytes_of_string (P := Tryd.prog) w 9 62 5 ⟨t.toArray⟩ Tryd.underlying9 Tryd.underlying62 Tryd.underlying5
  have hz := ba_size t
  refine ⟨_, _, by rw [h, hz], (Below.refl _ _).drew.alloc (Nat.le_refl _) _, ?_⟩
  intro j a hj
  have hlt : j < t.length := (List.getElem?_eq_some_iff.1 hj).1
  have he : t[j] = a := Option.some.inj ((List.getElem?_eq_getElem hlt).symm.trans hj)
  have hc := cellsAt (allocAt w.drew (.cells (bytesRow ⟨t.toArray⟩ (grownCap w t.length 0 5)) 5 ((bytesRow ⟨t.toArray⟩ (grownCap w t.length 0 5)).size, (bytesRow ⟨t.toArray⟩ (grownCap w t.length 0 5)).size + 1))) j
  have hd : (w.drew.heap.size) = w.heap.size := rfl
  rw [hd] at hc
  rw [hc, bytesRow_at _ _ _ (by simpa using hlt)]
  simp [he]
theorem wraps_i64 (n : Int) (h0 : 0 ≤ n) (h1 : n < 2 ^ 63) : IntKind.i64.wrap n = n := wrapL n h0 (by omega)
theorem or8 (x y : Int) (h1 : 0 ≤ x) (h2 : x % 256 = 0) (h3 : x < 9223372036854775808) (h4 : 0 ≤ y) (h5 : y < 256) : bits .or .i64 x y = x + y :=
  bits_join .i64 63 (by decide) wraps_i64 8 x y h1 h2 h3 h4 h5 (by omega)
theorem beGo_lt : ∀ (l : List UInt8) (n : Nat), beGo n l < (n + 1) * 256 ^ l.length
  | [], n => by simp [beGo]
  | a :: l, n => by
    have h := beGo_lt l (256 * n + a.toNat)
    have := a.toNat_lt
    rw [beGo, List.length_cons, Nat.pow_succ]
    refine Nat.lt_of_lt_of_le h ?_
    have h2 : 256 * n + a.toNat + 1 ≤ (n + 1) * 256 := by omega
    calc (256 * n + a.toNat + 1) * 256 ^ l.length ≤ ((n + 1) * 256) * 256 ^ l.length := Nat.mul_le_mul_right _ h2
      _ = (n + 1) * (256 ^ l.length * 256) := by rw [Nat.mul_assoc, Nat.mul_comm 256]

set_option maxRecDepth 100000 in
set_option maxHeartbeats 1000000 in
theorem num76 (p n : Nat) (s : St) (w : World) (hn : n ≤ 4) (hl : s.1.length ≤ 9223372036854775807) (h : RdAt p s w) :
    Calls Tryd.prog 117 #[.pointer (some ⟨p, 0, none⟩), .int .i64 n] w fun e w' => e = .returned (.int .i64 ((dnum n s).1 : Nat)) ∧ RdAt p (dnum n s).2 w' ∧ w.grownBy w' (some p) := by
  have A := Lib.hid (take81 p n s w (by omega) hl h)
  unfold dnum
  have hlen : (dtake n s).1.length ≤ 4 := by
    unfold dtake
    split
    · simp
    · simp only [List.length_take]; omega
  obtain ⟨t, s', hd⟩ : ∃ t s', dtake n s = (t, s') := ⟨_, _, rfl⟩
  rw [hd] at A hlen ⊢
  simp only at A hlen ⊢
  clear hd h hl
  go_enter Tryd.func117, Tryd.ntmps117
  go_wp2_with (go_at_call 137; refine A.out.mono ?_; rintro e w1 ⟨rfl, h1, g1⟩; refine Hid.out ?_)
  obtain ⟨cap, w2, hcv, hb2, hcell⟩ := conv_bytes w1 t
  have h2 : RdAt p s' w2 := belowAt' hb2 h1
  have g2 := grown_trans g1 (grown_below _ hb2)
  clear h1 g1 A
  refine Lib.hid ?_
  go_wp2
  go_loopw [5, 13] (fun ns is wr => ∃ (k acc : Nat), ns = .int .i64 (acc : Int) ∧ is = .int .i64 (k : Int) ∧ k ≤ t.length ∧ wr = w2 ∧ acc < 256 ^ k ∧ Hid (beGo acc (t.drop k) = beL t)) (fun _ is _ => t.length - (intOf is).toNat)
  case atStart => exact ⟨0, 0, rfl, rfl, Nat.zero_le _, rfl, by decide, rfl⟩
  case round =>
    obtain ⟨k, acc, rfl, rfl, hk, rfl, hacc, H⟩ := hrel
    have hp : (256 : Nat) ^ k ≤ 256 ^ 4 := Nat.pow_le_pow_right (by decide) (by omega)
    have hp4 : (256 : Nat) ^ 4 = 4294967296 := by decide
    have ha : acc < 4294967296 := by omega
    by_cases hlt : k < t.length
    · obtain ⟨a, hx⟩ : ∃ a, t[k]? = some a := ⟨_, List.getElem?_eq_getElem hlt⟩
      have c0 := hcell k a hx
      have hdr : t.drop k = a :: t.drop (k + 1) := by
        rw [List.drop_eq_getElem_cons hlt]
        congr 1
        exact Option.some.inj ((List.getElem?_eq_getElem hlt).symm.trans hx)
      have h1 := H.out
      rw [hdr, beGo] at h1
      have H1 := Lib.hid h1
      have hal := a.toNat_lt
      have hnx : 256 * acc + a.toNat < 256 ^ (k + 1) := by rw [Nat.pow_succ]; omega
      have HNX := Lib.hid hnx
      obtain ⟨y, hy⟩ : ∃ y : Nat, a.toNat = y := ⟨_, rfl⟩
      rw [hy] at c0 hal
      have hor := or8 ((acc : Int) * 256) (y : Int) (by omega) (by omega) (by omega) (by omega) (by omega)
      have w3 := wrapL ((acc : Int) * 256) (by omega) (by omega)
      have w4 : wrap64 (y : Int) = (y : Int) := by unfold wrap64; omega
      have HY := Lib.hid hy
      clear hdr h1 H hx hnx hy hp hp4 hacc hcell
      go_wp2
      refine ⟨⟨k + 1, 256 * acc + a.toNat, ?_, by go_num, by omega, by first | rfl | trivial, HNX.out, H1⟩, by simp [intOf]; omega⟩
      rw [HY.out]
      first | (congr 1; omega) | (rw [hor]; congr 1; omega)
    · have h1 := H.out
      rw [List.drop_eq_nil_of_le (by omega), beGo] at h1
      have H1 := Lib.hid h1
      have hge : ¬ ((k : Int) < (t.length : Int)) := by omega
      clear h1 H hp hp4 hacc
      go_wp2
      go_ret
      refine ⟨?_, h2, g2⟩
      rw [H1.out]
      rfl
end Go.Proofs.YteibjmlimcpaoaaDoor
