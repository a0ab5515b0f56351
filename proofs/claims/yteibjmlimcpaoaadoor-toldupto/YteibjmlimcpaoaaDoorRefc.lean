/-
  What visorref.wide answers, for every string of an even number of at most 1048576 bytes: a new slice that holds the characters; nothing that lay in memory turns.
-/
import Derived.Test.YteibjmlimcpaoaaDoorRefb
set_option linter.unusedVariables false
namespace Go.Proofs.YteibjmlimcpaoaaDoor.T
open Go.RowKit

theorem pairN_drop (s : ByteArray) (k : Nat) (h : k + 1 < s.size) : pairN (s.data.toList.drop k) = 256 * s[k].toNat + s[k + 1].toNat := by
  unfold pairN
  rw [getD_drop s k 0 (by omega), getD_drop s k 1 (by omega)]
  rfl

theorem index_at (s : ByteArray) (i : Int) (j : Nat) (h : i = j) (hj : j < s.size) (W : World) : (Instr.index 9 (.string s) (.int .i64 i)).run Tryd.prog W = .ok (.int .u8 (s[j].toNat : Int)) W := by
  subst h
  rw [run_index_string W 9 s .i64 _ Tryd.underlying9, dif_pos ⟨by omega, by omega⟩]
  rfl

theorem own_cast {w : World} {b n : Nat} {v : Value} {xs : List Value} {x : Int} {c : Nat} {br : Bool} (h : w.ownsRow b 74 2 v n (xs ++ [.int .i64 x, .bool br])) (hx : x = c) : w.ownsRow b 74 2 v n (xs ++ flat [(c, br)]) := by
  subst hx
  exact h

theorem wrapS (x : Int) (h0 : 0 ≤ x) (h1 : x < 9223372036854775808) : IntKind.i64.wrap x = x := by
  simp [IntKind.wrap, IntKind.bits, IntKind.signed]
  split <;> omega

set_option maxRecDepth 100000 in
set_option maxHeartbeats 4000000 in
theorem wide10 (s : ByteArray) (w : World) (L : List (Nat × Bool)) (hs : s.size ≤ 1048576) (hev : s.size % 2 = 0) (hL : letters firstW s.size s.data.toList = L) :
    Calls Tryd.prog 29 #[.string s] w fun e w' => ∃ v, e = .returned v ∧ w'.ownsRow w.heap.size 74 2 v L.length (flat L) ∧ Below w.heap.size w w' := by
  have hsl : s.data.toList.length = s.size := by simp
  have HL := Lib.hid hL
  clear hL
  obtain ⟨i0, hi, hz0, hz1, hz2⟩ := info_parts info32
  go_enter Tryd.func29, Tryd.ntmps29
  go_wp2
  go_loopw [3, 4] (fun v is wr => ∃ (k : Nat) (ls : List (Nat × Bool)), is = .int .i64 k ∧ k ≤ s.size ∧ k % 2 = 0 ∧ wr.ownsRow w.heap.size 74 2 v ls.length (flat ls) ∧ Below w.heap.size w wr ∧ ls.length ≤ k ∧ Hid (ls ++ letters firstW (s.data.toList.length - k) (s.data.toList.drop k) = L)) (fun _ is _ => s.size - (intOf is).toNat)
  case atStart =>
    refine ⟨0, [], rfl, Nat.zero_le _, rfl, World.ownsRow_nil _ _ _ _, Below.refl _ _, Nat.le_refl _, ?_⟩
    show [] ++ _ = L
    rw [hsl]
    exact HL
  case round =>
    obtain ⟨k, ls, rfl, hk, hke, hown, hbw, hll, H⟩ := hrel
    by_cases hlt : k < s.size
    · have hk1 : k + 1 < s.size := by omega
      have hk1' : (k : Int) + 1 < (s.size : Int) := by omega
      have b0 : s[k].toNat < 256 := s[k].toNat_lt
      have b1 : s[k + 1].toNat < 256 := s[k + 1].toNat_lt
      have hpx := pairN_drop s k hk1
      have HP := Lib.hid hpx
      clear hpx hsl HL
      have w1 := wrapS ((k : Int) + 1) (by omega) (by omega)
      have w2 := wrapS (s[k].toNat : Int) (by omega) (by omega)
      have w3 := wrapS (s[k + 1].toNat : Int) (by omega) (by omega)
      have w4 := wrapS (256 * (s[k].toNat : Int)) (by omega) (by omega)
      have w5 := wrapS (256 * (s[k].toNat : Int) + (s[k + 1].toNat : Int)) (by omega) (by omega)
      have x1 := index_at s ((k : Int) + 1) (k + 1) (by omega) hk1
      go_wp2_with fail
      go_quiet (fail)
      obtain ⟨x, hx⟩ : ∃ x : Int, 256 * (s[k].toNat : Int) + (s[k + 1].toNat : Int) = x := ⟨_, rfl⟩
      rw [hx]
      have HX : Hid ((pairN (s.data.toList.drop k) : Int) = x) := by have := HP.out; show _ = _; omega
      obtain ⟨W, hW⟩ : ∃ W, wr.drewN nq = W := ⟨_, rfl⟩
      have hown1 : W.ownsRow w.heap.size 74 2 u3 ls.length (flat ls) := by rw [← hW]; exact hown
      have hbw1 : Below w.heap.size w W := by rw [← hW]; exact below_drewN hbw nq
      rw [hW]
      clear hW hx w1 w2 w3 w4 w5 x1 b0 b1 HP hown hbw
      have hx0 : 0 ≤ x := by have := HX.out; omega
      have hx1 : x < 65536 := by have := HX.out; have := pairN_lt (s.data.toList.drop k); omega
      have hsl : s.data.toList.length = s.size := by simp
      have hdl : (s.data.toList.drop k).length = s.size - k := by simp
      by_cases c1 : x < 55296
      · have hf : firstW (s.data.toList.drop k) = (pairN (s.data.toList.drop k), 2, false) := by
          unfold firstW; have := HX.out; rw [if_pos (by omega)]
        have H2 := Lib.hid (letters_next firstW firstW_pos s.data.toList k (by omega) _ _ _ hf ls L H.out)
        clear hf H hsl
        go_wp2_with (at_builtin; refine wpList_append_own _ rfl _ _ 70 rfl w.heap.size 74 i0 (.agg #[.int .i64 0, .bool false]) 2 16 Tryd.underlying70 hi hz0 hz1 hz2 rfl (by decide) _ _ _ rfl (hown1.alloc _) ⟨W.heap.size, 0, none⟩ 1 1 [.int .i64 (x), .bool false] rfl rfl (cell_two_new _ _ _ _) (fun x hx => by simp at hx; rcases hx with rfl | rfl <;> rfl) (by unfold maxLen; omega) (by omega) (by have := hbw1.size; simp; omega) ?_; intro v' w3 hown' hgrow3 hnil3; refine Hid.out ?_)
        have own3 : w3.ownsRow w.heap.size 74 2 v' (ls ++ [(pairN (s.data.toList.drop k), false)]).length (flat (ls ++ [(pairN (s.data.toList.drop k), false)])) := by
          rw [flat_append, List.length_append]
          first | exact hown' | exact own_cast hown' HX.out.symm | (refine own_cast hown' ?_; have h5 := HX.out; have h6 := HY.out; omega)
        have bw3 : Below w.heap.size w w3 := Below.grown (hbw1.alloc hbw1.size _) hgrow3 (by have := hbw1.size; simp; omega) (fun j hj => (hown1.lt _ hj).1)
        clear hown' hgrow3 hnil3 hown1 hbw1
        refine Lib.hid ?_
        go_wp2
        go_roundw
        case rel => exact ⟨k + 2, _, by go_num, by omega, by omega, own3, bw3, by simp; omega, H2⟩
        case measure => simp [intOf]; omega
      by_cases c2 : 57343 < x
      · have c1n : 55296 ≤ x := by omega
        have hf : firstW (s.data.toList.drop k) = (pairN (s.data.toList.drop k), 2, false) := by
          unfold firstW; have := HX.out; rw [if_pos (by omega)]
        have H2 := Lib.hid (letters_next firstW firstW_pos s.data.toList k (by omega) _ _ _ hf ls L H.out)
        clear hf H hsl
        go_wp2_with (at_builtin; refine wpList_append_own _ rfl _ _ 70 rfl w.heap.size 74 i0 (.agg #[.int .i64 0, .bool false]) 2 16 Tryd.underlying70 hi hz0 hz1 hz2 rfl (by decide) _ _ _ rfl (hown1.alloc _) ⟨W.heap.size, 0, none⟩ 1 1 [.int .i64 (x), .bool false] rfl rfl (cell_two_new _ _ _ _) (fun x hx => by simp at hx; rcases hx with rfl | rfl <;> rfl) (by unfold maxLen; omega) (by omega) (by have := hbw1.size; simp; omega) ?_; intro v' w3 hown' hgrow3 hnil3; refine Hid.out ?_)
        have own3 : w3.ownsRow w.heap.size 74 2 v' (ls ++ [(pairN (s.data.toList.drop k), false)]).length (flat (ls ++ [(pairN (s.data.toList.drop k), false)])) := by
          rw [flat_append, List.length_append]
          first | exact hown' | exact own_cast hown' HX.out.symm | (refine own_cast hown' ?_; have h5 := HX.out; have h6 := HY.out; omega)
        have bw3 : Below w.heap.size w w3 := Below.grown (hbw1.alloc hbw1.size _) hgrow3 (by have := hbw1.size; simp; omega) (fun j hj => (hown1.lt _ hj).1)
        clear hown' hgrow3 hnil3 hown1 hbw1
        refine Lib.hid ?_
        go_wp2
        go_roundw
        case rel => exact ⟨k + 2, _, by go_num, by omega, by omega, own3, bw3, by simp; omega, H2⟩
        case measure => simp [intOf]; omega
      have c1n : 55296 ≤ x := by omega
      have c2n : x ≤ 57343 := by omega
      by_cases c3 : k + 3 < s.size
      · have hk3 : (k : Int) + 3 < (s.size : Int) := by omega
        have b2 : s[k + 2].toNat < 256 := s[k + 2].toNat_lt
        have b3 : s[k + 3].toNat < 256 := s[k + 3].toNat_lt
        have HQ : Hid (pairN (s.data.toList.drop (k + 2)) = 256 * s[k + 2].toNat + s[k + 3].toNat) := pairN_drop s (k + 2) (by omega)
        have w1 := wrapS ((k : Int) + 2) (by omega) (by omega)
        have w0 := wrapS ((k : Int) + 3) (by omega) (by omega)
        have w2 := wrapS (s[k + 2].toNat : Int) (by omega) (by omega)
        have w3 := wrapS (s[k + 3].toNat : Int) (by omega) (by omega)
        have w4 := wrapS (256 * (s[k + 2].toNat : Int)) (by omega) (by omega)
        have w5 := wrapS (256 * (s[k + 2].toNat : Int) + (s[k + 3].toNat : Int)) (by omega) (by omega)
        have x2 := index_at s ((k : Int) + 2) (k + 2) (by omega) (by omega)
        have x3 := index_at s ((k : Int) + 3) (k + 3) (by omega) (by omega)
        go_wp2_with fail
        go_quiet (fail)
        obtain ⟨y, hy⟩ : ∃ y : Int, 256 * (s[k + 2].toNat : Int) + (s[k + 3].toNat : Int) = y := ⟨_, rfl⟩
        rw [hy]
        have HY : Hid ((pairN ((s.data.toList.drop k).drop 2) : Int) = y) := by have := HQ.out; show _ = _; rw [List.drop_drop]; omega
        obtain ⟨W2, hW⟩ : ∃ W2, W.drewN nq = W2 := ⟨_, rfl⟩
        have hown2 : W2.ownsRow w.heap.size 74 2 u3 ls.length (flat ls) := by rw [← hW]; exact hown1
        have hbw2 : Below w.heap.size w W2 := by rw [← hW]; exact below_drewN hbw1 _
        rw [hW]
        clear hW hy w0 w1 w2 w3 w4 w5 x2 x3 b2 b3 HQ hown1 hbw1
        have hy0 : 0 ≤ y := by have := HY.out; omega
        have hy1 : y < 65536 := by have := HY.out; have := pairN_lt ((s.data.toList.drop k).drop 2); omega
        by_cases c4 : x < 56320
        · by_cases c5 : y < 56320
          · have hf : firstW (s.data.toList.drop k) = (65533, 2, true) := by
              unfold firstW; have := HX.out; have := HY.out; rw [if_neg (by omega), if_neg (by omega)]
            have H2 := Lib.hid (letters_next firstW firstW_pos s.data.toList k (by omega) _ _ _ hf ls L H.out)
            clear hf H hsl
            go_wp2_with (at_builtin; refine wpList_append_own _ rfl _ _ 70 rfl w.heap.size 74 i0 (.agg #[.int .i64 0, .bool false]) 2 16 Tryd.underlying70 hi hz0 hz1 hz2 rfl (by decide) _ _ _ rfl (hown2.alloc _) ⟨W2.heap.size, 0, none⟩ 1 1 [.int .i64 (65533), .bool true] rfl rfl (cell_two_new _ _ _ _) (fun x hx => by simp at hx; rcases hx with rfl | rfl <;> rfl) (by unfold maxLen; omega) (by omega) (by have := hbw2.size; simp; omega) ?_; intro v' w3 hown' hgrow3 hnil3; refine Hid.out ?_)
            have own3 : w3.ownsRow w.heap.size 74 2 v' (ls ++ [(65533, true)]).length (flat (ls ++ [(65533, true)])) := by
              rw [flat_append, List.length_append]
              first | exact hown' | exact own_cast hown' HX.out.symm | (refine own_cast hown' ?_; have h5 := HX.out; have h6 := HY.out; omega)
            have bw3 : Below w.heap.size w w3 := Below.grown (hbw2.alloc hbw2.size _) hgrow3 (by have := hbw2.size; simp; omega) (fun j hj => (hown2.lt _ hj).1)
            clear hown' hgrow3 hnil3 hown2 hbw2
            refine Lib.hid ?_
            go_wp2
            go_roundw
            case rel => exact ⟨k + 2, _, by go_num, by omega, by omega, own3, bw3, by simp; omega, H2⟩
            case measure => simp [intOf]; omega
          have c5n : 56320 ≤ y := by omega
          by_cases c6 : 57343 < y
          · have hf : firstW (s.data.toList.drop k) = (65533, 2, true) := by
              unfold firstW; have := HX.out; have := HY.out; rw [if_neg (by omega), if_neg (by omega)]
            have H2 := Lib.hid (letters_next firstW firstW_pos s.data.toList k (by omega) _ _ _ hf ls L H.out)
            clear hf H hsl
            go_wp2_with (at_builtin; refine wpList_append_own _ rfl _ _ 70 rfl w.heap.size 74 i0 (.agg #[.int .i64 0, .bool false]) 2 16 Tryd.underlying70 hi hz0 hz1 hz2 rfl (by decide) _ _ _ rfl (hown2.alloc _) ⟨W2.heap.size, 0, none⟩ 1 1 [.int .i64 (65533), .bool true] rfl rfl (cell_two_new _ _ _ _) (fun x hx => by simp at hx; rcases hx with rfl | rfl <;> rfl) (by unfold maxLen; omega) (by omega) (by have := hbw2.size; simp; omega) ?_; intro v' w3 hown' hgrow3 hnil3; refine Hid.out ?_)
            have own3 : w3.ownsRow w.heap.size 74 2 v' (ls ++ [(65533, true)]).length (flat (ls ++ [(65533, true)])) := by
              rw [flat_append, List.length_append]
              first | exact hown' | exact own_cast hown' HX.out.symm | (refine own_cast hown' ?_; have h5 := HX.out; have h6 := HY.out; omega)
            have bw3 : Below w.heap.size w w3 := Below.grown (hbw2.alloc hbw2.size _) hgrow3 (by have := hbw2.size; simp; omega) (fun j hj => (hown2.lt _ hj).1)
            clear hown' hgrow3 hnil3 hown2 hbw2
            refine Lib.hid ?_
            go_wp2
            go_roundw
            case rel => exact ⟨k + 2, _, by go_num, by omega, by omega, own3, bw3, by simp; omega, H2⟩
            case measure => simp [intOf]; omega
          have c6n : y ≤ 57343 := by omega
          have hf : firstW (s.data.toList.drop k) = (65536 + 1024 * (pairN (s.data.toList.drop k) - 55296) + (pairN ((s.data.toList.drop k).drop 2) - 56320), 4, false) := by
            unfold firstW; have := HX.out; have := HY.out; rw [if_neg (by omega), if_pos (by omega)]
          have H2 := Lib.hid (letters_next firstW firstW_pos s.data.toList k (by omega) _ _ _ hf ls L H.out)
          clear hf H hsl
          go_wp2_with (at_builtin; refine wpList_append_own _ rfl _ _ 70 rfl w.heap.size 74 i0 (.agg #[.int .i64 0, .bool false]) 2 16 Tryd.underlying70 hi hz0 hz1 hz2 rfl (by decide) _ _ _ rfl (hown2.alloc _) ⟨W2.heap.size, 0, none⟩ 1 1 [.int .i64 (65536 + 1024 * (x - 55296) + y - 56320), .bool false] rfl rfl (cell_two_new _ _ _ _) (fun x hx => by simp at hx; rcases hx with rfl | rfl <;> rfl) (by unfold maxLen; omega) (by omega) (by have := hbw2.size; simp; omega) ?_; intro v' w3 hown' hgrow3 hnil3; refine Hid.out ?_)
          have own3 : w3.ownsRow w.heap.size 74 2 v' (ls ++ [(65536 + 1024 * (pairN (s.data.toList.drop k) - 55296) + (pairN ((s.data.toList.drop k).drop 2) - 56320), false)]).length (flat (ls ++ [(65536 + 1024 * (pairN (s.data.toList.drop k) - 55296) + (pairN ((s.data.toList.drop k).drop 2) - 56320), false)])) := by
            rw [flat_append, List.length_append]
            first | exact hown' | exact own_cast hown' HX.out.symm | (refine own_cast hown' ?_; have h5 := HX.out; have h6 := HY.out; omega)
          have bw3 : Below w.heap.size w w3 := Below.grown (hbw2.alloc hbw2.size _) hgrow3 (by have := hbw2.size; simp; omega) (fun j hj => (hown2.lt _ hj).1)
          clear hown' hgrow3 hnil3 hown2 hbw2
          refine Lib.hid ?_
          go_wp2
          go_roundw
          case rel => exact ⟨k + 4, _, by go_num, by omega, by omega, own3, bw3, by simp; omega, H2⟩
          case measure => simp [intOf]; omega
        · have c4n : 56320 ≤ x := by omega
          have hf : firstW (s.data.toList.drop k) = (65533, 2, true) := by
            unfold firstW; have := HX.out; have := HY.out; rw [if_neg (by omega), if_neg (by omega)]
          have H2 := Lib.hid (letters_next firstW firstW_pos s.data.toList k (by omega) _ _ _ hf ls L H.out)
          clear hf H hsl
          go_wp2_with (at_builtin; refine wpList_append_own _ rfl _ _ 70 rfl w.heap.size 74 i0 (.agg #[.int .i64 0, .bool false]) 2 16 Tryd.underlying70 hi hz0 hz1 hz2 rfl (by decide) _ _ _ rfl (hown2.alloc _) ⟨W2.heap.size, 0, none⟩ 1 1 [.int .i64 (65533), .bool true] rfl rfl (cell_two_new _ _ _ _) (fun x hx => by simp at hx; rcases hx with rfl | rfl <;> rfl) (by unfold maxLen; omega) (by omega) (by have := hbw2.size; simp; omega) ?_; intro v' w3 hown' hgrow3 hnil3; refine Hid.out ?_)
          have own3 : w3.ownsRow w.heap.size 74 2 v' (ls ++ [(65533, true)]).length (flat (ls ++ [(65533, true)])) := by
            rw [flat_append, List.length_append]
            first | exact hown' | exact own_cast hown' HX.out.symm | (refine own_cast hown' ?_; have h5 := HX.out; have h6 := HY.out; omega)
          have bw3 : Below w.heap.size w w3 := Below.grown (hbw2.alloc hbw2.size _) hgrow3 (by have := hbw2.size; simp; omega) (fun j hj => (hown2.lt _ hj).1)
          clear hown' hgrow3 hnil3 hown2 hbw2
          refine Lib.hid ?_
          go_wp2
          go_roundw
          case rel => exact ⟨k + 2, _, by go_num, by omega, by omega, own3, bw3, by simp; omega, H2⟩
          case measure => simp [intOf]; omega
      · have hk3 : ¬ ((k : Int) + 3 < (s.size : Int)) := by omega
        by_cases c4 : x < 56320
        · have hf : firstW (s.data.toList.drop k) = (65533, 2, true) := by
            unfold firstW; have := HX.out; rw [if_neg (by omega), if_neg (by omega)]
          have H2 := Lib.hid (letters_next firstW firstW_pos s.data.toList k (by omega) _ _ _ hf ls L H.out)
          clear hf H hsl
          go_wp2_with (at_builtin; refine wpList_append_own _ rfl _ _ 70 rfl w.heap.size 74 i0 (.agg #[.int .i64 0, .bool false]) 2 16 Tryd.underlying70 hi hz0 hz1 hz2 rfl (by decide) _ _ _ rfl (hown1.alloc _) ⟨W.heap.size, 0, none⟩ 1 1 [.int .i64 (65533), .bool true] rfl rfl (cell_two_new _ _ _ _) (fun x hx => by simp at hx; rcases hx with rfl | rfl <;> rfl) (by unfold maxLen; omega) (by omega) (by have := hbw1.size; simp; omega) ?_; intro v' w3 hown' hgrow3 hnil3; refine Hid.out ?_)
          have own3 : w3.ownsRow w.heap.size 74 2 v' (ls ++ [(65533, true)]).length (flat (ls ++ [(65533, true)])) := by
            rw [flat_append, List.length_append]
            first | exact hown' | exact own_cast hown' HX.out.symm | (refine own_cast hown' ?_; have h5 := HX.out; have h6 := HY.out; omega)
          have bw3 : Below w.heap.size w w3 := Below.grown (hbw1.alloc hbw1.size _) hgrow3 (by have := hbw1.size; simp; omega) (fun j hj => (hown1.lt _ hj).1)
          clear hown' hgrow3 hnil3 hown1 hbw1
          refine Lib.hid ?_
          go_wp2
          go_roundw
          case rel => exact ⟨k + 2, _, by go_num, by omega, by omega, own3, bw3, by simp; omega, H2⟩
          case measure => simp [intOf]; omega
        · have c4n : 56320 ≤ x := by omega
          have hf : firstW (s.data.toList.drop k) = (65533, 2, true) := by
            unfold firstW; have := HX.out; rw [if_neg (by omega), if_neg (by omega)]
          have H2 := Lib.hid (letters_next firstW firstW_pos s.data.toList k (by omega) _ _ _ hf ls L H.out)
          clear hf H hsl
          go_wp2_with (at_builtin; refine wpList_append_own _ rfl _ _ 70 rfl w.heap.size 74 i0 (.agg #[.int .i64 0, .bool false]) 2 16 Tryd.underlying70 hi hz0 hz1 hz2 rfl (by decide) _ _ _ rfl (hown1.alloc _) ⟨W.heap.size, 0, none⟩ 1 1 [.int .i64 (65533), .bool true] rfl rfl (cell_two_new _ _ _ _) (fun x hx => by simp at hx; rcases hx with rfl | rfl <;> rfl) (by unfold maxLen; omega) (by omega) (by have := hbw1.size; simp; omega) ?_; intro v' w3 hown' hgrow3 hnil3; refine Hid.out ?_)
          have own3 : w3.ownsRow w.heap.size 74 2 v' (ls ++ [(65533, true)]).length (flat (ls ++ [(65533, true)])) := by
            rw [flat_append, List.length_append]
            first | exact hown' | exact own_cast hown' HX.out.symm | (refine own_cast hown' ?_; have h5 := HX.out; have h6 := HY.out; omega)
          have bw3 : Below w.heap.size w w3 := Below.grown (hbw1.alloc hbw1.size _) hgrow3 (by have := hbw1.size; simp; omega) (fun j hj => (hown1.lt _ hj).1)
          clear hown' hgrow3 hnil3 hown1 hbw1
          refine Lib.hid ?_
          go_wp2
          go_roundw
          case rel => exact ⟨k + 2, _, by go_num, by omega, by omega, own3, bw3, by simp; omega, H2⟩
          case measure => simp [intOf]; omega
    · have h2 := H.out
      rw [List.drop_eq_nil_of_le (by omega), letters_nil _ _ _ (by simp), List.append_nil] at h2
      have H2 := Lib.hid h2
      clear h2 H HL
      have hk1' : ¬ ((k : Int) + 1 < (s.size : Int)) := by omega
      go_wp2
      go_ret
      refine ⟨_, rfl, ?_, hbw⟩
      rw [← H2.out]
      exact hown
end Go.Proofs.YteibjmlimcpaoaaDoor.T
