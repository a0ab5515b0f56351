/-
  What visorref.narrow answers, for every string of at most 1048576 bytes: a new slice that holds the characters; nothing that lay in memory turns.
-/
import Derived.Test.YteibjmlimcpaoaaDoorRef
set_option linter.unusedVariables false
namespace Go.Proofs.YteibjmlimcpaoaaDoor.T
open Go.RowKit

def flat : List (Nat × Bool) → List Value
  | [] => []
  | x :: r => .int .i64 (x.1 : Int) :: .bool x.2 :: flat r
theorem flat_append (a b : List (Nat × Bool)) : flat (a ++ b) = flat a ++ flat b := by
  induction a with
  | nil => rfl
  | cons x a ih => simp [flat, ih]
theorem flat_length (a : List (Nat × Bool)) : (flat a).length = a.length * 2 := by
  induction a with
  | nil => rfl
  | cons x a ih => simp [flat, ih]; omega
theorem info32 : (Tryd.prog.info? 74).map (fun i => (i.zero, i.size, i.bytes)) = some (some (.agg #[.int .i64 0, .bool false]), 2, 16) := by kernel_rfl
theorem cell_two_new (w : World) (a b : Value) (t : TypeId) : ∀ j u, [a, b][j]? = some u → (w.alloc (.cells #[a, b] t)).cell? ((⟨w.heap.size, 0, none⟩ : Addr).add j) = some u := by
  intro j u hj
  rw [addr_add, World.cell?_alloc_new]
  match j, hj with
  | 0, hj => simpa using hj
  | 1, hj => simpa using hj
theorem ownsRow_on {w w' : World} {base e size : Nat} {v : Value} {n : Nat} {xs : List Value} (h : w.ownsRow base e size v n xs) (hb : Below w.heap.size w w') : w'.ownsRow base e size v n xs :=
  h.kept (row := none) ⟨hb.os, hb.tape, hb.output, hb.size, fun k hk _ => hb.block k hk⟩ (by cases hv : v.ownBlock <;> simp)

theorem letters_from (first : List UInt8 → Nat × Nat × Bool) (s : List UInt8) (k : Nat) (h : k < s.length) :
    letters first (s.length - k) (s.drop k) = ((first (s.drop k)).1, (first (s.drop k)).2.2) :: letters first (s.length - k - 1) (s.drop (k + (first (s.drop k)).2.1)) := by
  rw [letters_step first _ _ (by simp; omega) (by simp), List.drop_drop]

/-- more steps than bytes serve no more -/
theorem letters_fuel (first : List UInt8 → Nat × Nat × Bool) (h1 : ∀ l, 1 ≤ (first l).2.1) : ∀ (f : Nat) (l : List UInt8), l.length ≤ f → letters first f l = letters first l.length l
  | 0, l, h => by
    have : l = [] := List.eq_nil_of_length_eq_zero (by omega)
    subst this
    rfl
  | f + 1, [], h => rfl
  | f + 1, a :: l, h => by
    have h2 := h1 (a :: l)
    have hd : ((a :: l).drop (first (a :: l)).2.1).length ≤ l.length := by simp; omega
    have e1 := letters_fuel first h1 f ((a :: l).drop (first (a :: l)).2.1) (by simp at h; omega)
    have e2 := letters_fuel first h1 l.length ((a :: l).drop (first (a :: l)).2.1) hd
    show _ :: letters first f _ = _ :: letters first l.length _
    rw [e1, e2]

theorem firstN_pos (l : List UInt8) : 1 ≤ (firstN l).2.1 := by unfold firstN; split <;> simp
theorem firstW_pos (l : List UInt8) : 1 ≤ (firstW l).2.1 := by
  unfold firstW
  split
  · simp
  · split <;> simp

theorem letters_next (first : List UInt8 → Nat × Nat × Bool) (h1 : ∀ l, 1 ≤ (first l).2.1) (s : List UInt8) (k : Nat) (h : k < s.length) (v sz : Nat) (br : Bool) (hf : first (s.drop k) = (v, sz, br)) (ls L : List (Nat × Bool))
    (H : ls ++ letters first (s.length - k) (s.drop k) = L) : (ls ++ [(v, br)]) ++ letters first (s.length - (k + sz)) (s.drop (k + sz)) = L := by
  rw [letters_from first s k h, hf] at H
  have h2 := h1 (s.drop k)
  rw [hf] at h2
  simp only at H h2
  have e := letters_fuel first h1 (s.length - k - 1) (s.drop (k + sz)) (by simp; omega)
  have e2 := letters_fuel first h1 (s.length - (k + sz)) (s.drop (k + sz)) (by simp)
  rw [e, ← e2] at H
  rw [← H]
  simp

theorem getD_drop (s : ByteArray) (k i : Nat) (h : k + i < s.size) : (s.data.toList.drop k).getD i 0 = s[k + i] := by
  rw [← getD_byte s (k + i) h, List.getD_eq_getElem?_getD, List.getD_eq_getElem?_getD, List.getElem?_drop]

set_option maxRecDepth 100000 in
set_option maxHeartbeats 2000000 in
theorem narrow11 (s : ByteArray) (w : World) (L : List (Nat × Bool)) (hs : s.size ≤ 1048576) (hL : letters firstN s.size s.data.toList = L) :
    Calls Tryd.prog 30 #[.string s] w fun e w' => ∃ v, e = .returned v ∧ w'.ownsRow w.heap.size 74 2 v L.length (flat L) ∧ Below w.heap.size w w' := by
  have hsl : s.data.toList.length = s.size := by simp
  have HL := Lib.hid hL
  clear hL
  obtain ⟨i0, hi, hz0, hz1, hz2⟩ := info_parts info32
  go_enter Tryd.func30, Tryd.ntmps30
  go_wp2
  go_loopw [3, 4] (fun v is wr => ∃ (k : Nat) (ls : List (Nat × Bool)), is = .int .i64 k ∧ k ≤ s.size ∧ wr.ownsRow w.heap.size 74 2 v ls.length (flat ls) ∧ Below w.heap.size w wr ∧ ls.length ≤ k ∧ Hid (ls ++ letters firstN (s.data.toList.length - k) (s.data.toList.drop k) = L)) (fun _ is _ => s.size - (intOf is).toNat)
  case atStart =>
    refine ⟨0, [], rfl, Nat.zero_le _, World.ownsRow_nil _ _ _ _, Below.refl _ _, Nat.le_refl _, ?_⟩
    show [] ++ _ = L
    rw [hsl]
    exact HL
  case round =>
    obtain ⟨k, ls, rfl, hk, hown, hbw, hll, H⟩ := hrel
    by_cases hlt : k < s.size
    · by_cases hb : s[k].toNat < 128
      · have hf : firstN (s.data.toList.drop k) = (s[k].toNat, 1, false) := by
          unfold firstN
          rw [getD_drop s k 0 (by omega)]
          exact if_pos hb
        have H2 := Lib.hid (letters_next firstN firstN_pos s.data.toList k (by omega) _ _ _ hf ls L H.out)
        clear hf H hsl HL
        go_wp2_with (at_builtin; refine wpList_append_own _ rfl _ _ 70 rfl w.heap.size 74 i0 (.agg #[.int .i64 0, .bool false]) 2 16 Tryd.underlying70 hi hz0 hz1 hz2 rfl (by decide) _ _ _ rfl (hown.alloc _) ⟨wr.heap.size, 0, none⟩ 1 1 [.int .i64 (s[k].toNat : Int), .bool false] rfl rfl (cell_two_new _ _ _ _) (fun x hx => by simp at hx; rcases hx with rfl | rfl <;> rfl) (by unfold maxLen; omega) (by omega) (by have := hbw.size; simp; omega) ?_; intro v' w3 hown' hgrow3 hnil3; refine Hid.out ?_)
        have own3 : w3.ownsRow w.heap.size 74 2 v' (ls ++ [(s[k].toNat, false)]).length (flat (ls ++ [(s[k].toNat, false)])) := by
          rw [flat_append, List.length_append]
          exact hown'
        have bw3 : Below w.heap.size w w3 := Below.grown (hbw.alloc hbw.size _) hgrow3 (by have := hbw.size; simp; omega) (fun j hj => (hown.lt _ hj).1)
        clear hown' hgrow3 hnil3 hown hbw
        refine Lib.hid ?_
        go_wp2
        go_roundw
        case rel => exact ⟨k + 1, _, by go_num, by omega, own3, bw3, by simp; omega, H2⟩
        case measure => simp [intOf]; omega
      · have hf : firstN (s.data.toList.drop k) = (65533, 1, true) := by
          unfold firstN
          rw [getD_drop s k 0 (by omega)]
          exact if_neg hb
        have hb' : 128 ≤ s[k].toNat := by omega
        have H2 := Lib.hid (letters_next firstN firstN_pos s.data.toList k (by omega) _ _ _ hf ls L H.out)
        clear hf H hsl HL
        go_wp2_with (at_builtin; refine wpList_append_own _ rfl _ _ 70 rfl w.heap.size 74 i0 (.agg #[.int .i64 0, .bool false]) 2 16 Tryd.underlying70 hi hz0 hz1 hz2 rfl (by decide) _ _ _ rfl (hown.alloc _) ⟨wr.heap.size, 0, none⟩ 1 1 [.int .i64 65533, .bool true] rfl rfl (cell_two_new _ _ _ _) (fun x hx => by simp at hx; rcases hx with rfl | rfl <;> rfl) (by unfold maxLen; omega) (by omega) (by have := hbw.size; simp; omega) ?_; intro v' w3 hown' hgrow3 hnil3; refine Hid.out ?_)
        have own3 : w3.ownsRow w.heap.size 74 2 v' (ls ++ [(65533, true)]).length (flat (ls ++ [(65533, true)])) := by
          rw [flat_append, List.length_append]
          exact hown'
        have bw3 : Below w.heap.size w w3 := Below.grown (hbw.alloc hbw.size _) hgrow3 (by have := hbw.size; simp; omega) (fun j hj => (hown.lt _ hj).1)
        clear hown' hgrow3 hnil3 hown hbw
        refine Lib.hid ?_
        go_wp2
        go_roundw
        case rel => exact ⟨k + 1, _, by go_num, by omega, own3, bw3, by simp; omega, H2⟩
        case measure => simp [intOf]; omega
    · have h2 := H.out
      rw [List.drop_eq_nil_of_le (by omega), letters_nil _ _ _ (by simp), List.append_nil] at h2
      have H2 := Lib.hid h2
      clear h2 H HL
      go_wp2
      go_ret
      refine ⟨_, rfl, ?_, hbw⟩
      rw [← H2.out]
      exact hown
end Go.Proofs.YteibjmlimcpaoaaDoor.T
