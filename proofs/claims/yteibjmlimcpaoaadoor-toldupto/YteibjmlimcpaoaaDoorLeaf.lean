/-
  What the small functions answer, for every argument in the range that they are called at: text.known, text.Harmful, visorref.harmful, visorkeep.harmful, text.pair, text.narrow, text.wide, (text.character).marks.
-/
import Derived.Test.YteibjmlimcpaoaaDoorProg
import Derived.Test.YteibjmlimcpaoaaDoorBase
import Derived.WalkKit
import Derived.BigCall
import Derived.Deep.QuietTactic
import Derived.BigQuiet
set_option linter.unusedVariables false
namespace Go.Proofs.YteibjmlimcpaoaaDoor.T
open Go.RowKit

theorem ret_bool {a b : Bool} (h : a = b) : Ending.returned (.bool a) = .returned (.bool b) := by rw [h]

set_option maxHeartbeats 400000 in
theorem harm27 (c : Int) (w : World) :
    Calls Tryd.prog 112 #[.int .i32 c] w fun e w' => e = .returned (.bool (harmB c)) ∧ w' = w := by
  go_enter Tryd.func112, Tryd.ntmps112
  go_wp2
  all_goals go_ret
  all_goals refine ⟨ret_bool ?_, rfl⟩
  all_goals try simp only [beq_iff_eq, beq_eq_false_iff_ne, ne_eq] at *
  all_goals symm
  all_goals simp only [harmB, decide_eq_true_eq, decide_eq_false_iff_not]
  all_goals omega

set_option maxHeartbeats 400000 in
theorem harm13 (c : Int) (w : World) :
    Calls Tryd.prog 32 #[.int .i64 c] w fun e w' => e = .returned (.bool (harmB c)) ∧ w' = w := by
  go_enter Tryd.func32, Tryd.ntmps32
  go_wp2
  all_goals go_ret
  all_goals refine ⟨ret_bool ?_, rfl⟩
  all_goals rw [Bool.eq_iff_iff]
  all_goals simp only [harmB, Bool.or_eq_true, beq_iff_eq, decide_eq_true_eq, true_iff]
  all_goals omega

set_option maxHeartbeats 400000 in
theorem harm14 (c : Int) (w : World) :
    Calls Tryd.prog 33 #[.int .i64 c] w fun e w' => e = .returned (.bool (harmB c)) ∧ w' = w := by
  go_enter Tryd.func33, Tryd.ntmps33
  go_wp2
  all_goals go_ret
  all_goals refine ⟨ret_bool ?_, rfl⟩
  all_goals rw [Bool.eq_iff_iff]
  all_goals simp only [harmB, Bool.or_eq_true, beq_iff_eq, decide_eq_true_eq, true_iff]
  all_goals omega

set_option maxHeartbeats 400000 in
theorem known15 (p q : Int) (w : World) :
    Calls Tryd.prog 50 #[.int .i64 p, .int .i64 q] w fun e w' => e = .returned (.bool (twoB p q || oneB p q)) ∧ w' = w := by
  go_enter Tryd.func50, Tryd.ntmps50
  go_wp2
  all_goals go_ret
  all_goals refine ⟨ret_bool ?_, rfl⟩
  all_goals try simp only [beq_iff_eq, beq_eq_false_iff_ne, ne_eq] at *
  all_goals rw [Bool.eq_iff_iff]
  all_goals simp only [twoB, oneB, Bool.or_eq_true, beq_iff_eq, decide_eq_true_eq, true_iff, Bool.false_eq_true, false_iff]
  all_goals omega

theorem getD_byte (s : ByteArray) (i : Nat) (h : i < s.size) : s.data.toList.getD i 0 = s[i] := by
  have h' : i < s.data.toList.length := by simpa using h
  rw [List.getD_eq_getElem?_getD, List.getElem?_eq_getElem h', Option.getD_some]
  rfl

set_option maxRecDepth 100000 in
set_option maxHeartbeats 400000 in
theorem narrow17 (s : ByteArray) (w : World) (h : 0 < s.size) :
    Calls Tryd.prog 52 #[.string s] w fun e w' => e = .returned (.agg #[.int .i32 (firstN s.data.toList).1, .int .i64 (firstN s.data.toList).2.1, .bool (firstN s.data.toList).2.2]) ∧ Below w.heap.size w w' := by
  have hd : s.data.toList.getD 0 0 = s[0] := getD_byte s 0 h
  by_cases hb : s[0].toNat < 128
  · have hf : firstN s.data.toList = (s[0].toNat, 1, false) := by unfold firstN; rw [hd, if_pos hb]
    rw [hf]
    clear hf hd
    go_enter Tryd.func52, Tryd.ntmps52
    go_wp2
    exact bodyPost_ret (v := .agg #[.int .i32 s[0].toNat, .int .i64 1, .bool false]) (by simp [results, Tryd.results52, go_sem]) rfl ⟨rfl, (Below.refl _ _).alloc (Nat.le_refl _) _⟩
  · have hf : firstN s.data.toList = (65533, 1, true) := by unfold firstN; rw [hd, if_neg hb]
    rw [hf]
    clear hf hd
    have hb' : 128 ≤ s[0].toNat := by omega
    go_enter Tryd.func52, Tryd.ntmps52
    go_wp2
    exact bodyPost_ret (v := .agg #[.int .i32 65533, .int .i64 1, .bool true]) (by simp [results, Tryd.results52, go_sem]) rfl ⟨rfl, (Below.refl _ _).alloc (Nat.le_refl _) _⟩

theorem or8 (x y : Int) (h1 : 0 ≤ x) (h2 : x % 256 = 0) (h3 : x < 2147483648) (h4 : 0 ≤ y) (h5 : y < 256) : bits .or .i32 x y = x + y :=
  bits_join .i32 31 (by decide) wraps_i32 8 x y h1 h2 h3 h4 h5 (by omega)

set_option maxHeartbeats 400000 in
theorem pair26 (s : ByteArray) (w : World) (h : 2 ≤ s.size) :
    Calls Tryd.prog 78 #[.string s] w fun e w' => e = .returned (.int .i32 (pairN s.data.toList)) ∧ ∃ n, w' = w.drewN n := by
  have h0 : 0 < s.size := by omega
  have h1 : 1 < s.size := by omega
  have h1' : (1 : Int) < (s.size : Int) := by omega
  have b0 : s[0].toNat < 256 := s[0].toNat_lt
  have b1 : s[1].toNat < 256 := s[1].toNat_lt
  go_enter Tryd.func78, Tryd.ntmps78
  go_wp2_with fail
  go_quiet (fail)
  go_wp2
  go_ret
  refine ⟨?_, nq, rfl⟩
  show Ending.returned (.int .i32 (bits BinOp.or IntKind.i32 (↑s[0].toNat * 256) ↑s[1].toNat)) = _
  rw [or8 _ _ (by omega) (by omega) (by omega) (by omega) (by omega), pairN, getD_byte s 0 h0, getD_byte s 1 h1]
  congr 2
  omega

set_option maxHeartbeats 400000 in
theorem marks25 (c n : Int) (b : Bool) (w : World) :
    Calls Tryd.prog 77 #[.agg #[.int .i32 c, .int .i64 n, .bool b]] w fun e w' => e = .returned (.int .i64 (markN b (harmB c) false)) ∧ Below w.heap.size w w' := by
  cases b <;> cases hh : harmB c
  all_goals go_enter Tryd.func77, Tryd.ntmps77
  all_goals go_wp2_with (go_at_call 112; refine (harm27 _ _).mono ?_; rintro e w' ⟨rfl, rfl⟩)
  all_goals go_ret
  all_goals exact ⟨rfl, (Below.refl _ _).alloc (Nat.le_refl _) _⟩
end Go.Proofs.YteibjmlimcpaoaaDoor.T
