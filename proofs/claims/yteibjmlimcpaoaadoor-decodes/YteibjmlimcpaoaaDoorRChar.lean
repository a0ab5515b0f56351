/-
  visorref.harmful and visorref.utf8, at this program: for every number, for every character.
-/
import Derived.Test.YteibjmlimcpaoaaDoorRLeaf
set_option linter.unusedVariables false
namespace Go.Proofs.YteibjmlimcpaoaaDoor
open Go.RowKit

set_option maxHeartbeats 400000 in
theorem harm27 (c : Int) (w : World) :
    Calls Tryd.prog 32 #[.int .i64 c] w fun e w' => e = .returned (.bool (harmB c)) ∧ w' = w := by
  go_enter Tryd.func32, Tryd.ntmps32
  go_wp2
  all_goals go_ret
  all_goals refine ⟨ret_bool ?_, rfl⟩
  all_goals rw [Bool.eq_iff_iff]
  all_goals simp only [harmB, Bool.or_eq_true, beq_iff_eq, decide_eq_true_eq, true_iff]
  all_goals omega

set_option maxRecDepth 100000 in
set_option maxHeartbeats 1000000 in
theorem utf28_1 (n : Nat) (w : World) (h : n < 128) :
    Calls Tryd.prog 55 #[.int .i64 n] w fun e w' => e = .returned (.string ⟨(utf8L n).toArray⟩) ∧ Below w.heap.size w w' := by
  have hf : utf8L n = [UInt8.ofNat n] := by unfold utf8L; rw [if_pos h]
  obtain ⟨l, hl⟩ : ∃ l, utf8L n = l := ⟨_, rfl⟩
  rw [hl]
  rw [hl] at hf
  have hc := run_conv w l #[.int .u8 (n : Int)] (by rw [hf]; simp [Lib.byteCells]; omega) 1 (by rw [hf]; rfl)
  clear hf hl
  go_enter Tryd.func55, Tryd.ntmps55
  go_wp2
  go_ret
  exact ⟨rfl, (Below.refl _ _).alloc (Nat.le_refl _) _⟩

set_option maxRecDepth 100000 in
set_option maxHeartbeats 1000000 in
theorem utf28_2 (n : Nat) (w : World) (h : 128 ≤ n) (h1 : n < 2048) :
    Calls Tryd.prog 55 #[.int .i64 n] w fun e w' => e = .returned (.string ⟨(utf8L n).toArray⟩) ∧ Below w.heap.size w w' := by
  have hf : utf8L n = [UInt8.ofNat (192 + n / 64), UInt8.ofNat (128 + n % 64)] := by unfold utf8L; rw [if_neg (by omega), if_pos h1]
  obtain ⟨l, hl⟩ : ∃ l, utf8L n = l := ⟨_, rfl⟩
  rw [hl]
  rw [hl] at hf
  have hc := run_conv w l #[.int .u8 (192 + (n : Int) / 64), .int .u8 (128 + (n : Int) % 64)] (by rw [hf]; simp [Lib.byteCells]; omega) 2 (by rw [hf]; rfl)
  clear hf hl
  go_enter Tryd.func55, Tryd.ntmps55
  go_wp2
  go_ret
  exact ⟨rfl, (Below.refl _ _).alloc (Nat.le_refl _) _⟩

set_option maxRecDepth 100000 in
set_option maxHeartbeats 1000000 in
theorem utf28_3 (n : Nat) (w : World) (h : 2048 ≤ n) (h1 : n < 65536) :
    Calls Tryd.prog 55 #[.int .i64 n] w fun e w' => e = .returned (.string ⟨(utf8L n).toArray⟩) ∧ Below w.heap.size w w' := by
  have hf : utf8L n = [UInt8.ofNat (224 + n / 4096), UInt8.ofNat (128 + n / 64 % 64), UInt8.ofNat (128 + n % 64)] := by unfold utf8L; rw [if_neg (by omega), if_neg (by omega), if_pos h1]
  obtain ⟨l, hl⟩ : ∃ l, utf8L n = l := ⟨_, rfl⟩
  rw [hl]
  rw [hl] at hf
  have hc := run_conv w l #[.int .u8 (224 + (n : Int) / 4096), .int .u8 (128 + (n : Int) / 64 % 64), .int .u8 (128 + (n : Int) % 64)] (by rw [hf]; simp [Lib.byteCells]; omega) 3 (by rw [hf]; rfl)
  clear hf hl
  obtain ⟨x, hx⟩ : ∃ x : Int, (n : Int) = x := ⟨_, rfl⟩
  rw [hx] at hc
  rw [hx]
  have g0 : 0 ≤ x := by omega
  have g1 : 128 ≤ x := by omega
  have g2 : 2048 ≤ x := by omega
  have g3 : 2048 ≤ x := by omega
  have g4 : x < 65536 := by omega
  clear hx h h1
  go_enter Tryd.func55, Tryd.ntmps55
  go_wp2
  go_ret
  exact ⟨rfl, (Below.refl _ _).alloc (Nat.le_refl _) _⟩

set_option maxRecDepth 100000 in
set_option maxHeartbeats 1000000 in
theorem utf28_4 (n : Nat) (w : World) (h : 65536 ≤ n) (h1 : n ≤ 1114111) :
    Calls Tryd.prog 55 #[.int .i64 n] w fun e w' => e = .returned (.string ⟨(utf8L n).toArray⟩) ∧ Below w.heap.size w w' := by
  have hf : utf8L n = [UInt8.ofNat (240 + n / 262144), UInt8.ofNat (128 + n / 4096 % 64), UInt8.ofNat (128 + n / 64 % 64), UInt8.ofNat (128 + n % 64)] := by unfold utf8L; rw [if_neg (by omega), if_neg (by omega), if_neg (by omega)]
  obtain ⟨l, hl⟩ : ∃ l, utf8L n = l := ⟨_, rfl⟩
  rw [hl]
  rw [hl] at hf
  have hc := run_conv w l #[.int .u8 (240 + (n : Int) / 262144), .int .u8 (128 + (n : Int) / 4096 % 64), .int .u8 (128 + (n : Int) / 64 % 64), .int .u8 (128 + (n : Int) % 64)] (by rw [hf]; simp [Lib.byteCells]; omega) 4 (by rw [hf]; rfl)
  clear hf hl
  obtain ⟨x, hx⟩ : ∃ x : Int, (n : Int) = x := ⟨_, rfl⟩
  rw [hx] at hc
  rw [hx]
  have g0 : 0 ≤ x := by omega
  have g1 : 128 ≤ x := by omega
  have g2 : 2048 ≤ x := by omega
  have g3 : 65536 ≤ x := by omega
  have g4 : x ≤ 1114111 := by omega
  clear hx h h1
  go_enter Tryd.func55, Tryd.ntmps55
  go_wp2
  go_ret
  exact ⟨rfl, (Below.refl _ _).alloc (Nat.le_refl _) _⟩

theorem utf28 (n : Nat) (w : World) (h : n ≤ 1114111) :
    Calls Tryd.prog 55 #[.int .i64 n] w fun e w' => e = .returned (.string ⟨(utf8L n).toArray⟩) ∧ Below w.heap.size w w' := by
  by_cases c1 : n < 128
  · exact utf28_1 n w c1
  by_cases c2 : n < 2048
  · exact utf28_2 n w (by omega) c2
  by_cases c3 : n < 65536
  · exact utf28_3 n w (by omega) c3
  exact utf28_4 n w (by omega) h

end Go.Proofs.YteibjmlimcpaoaaDoor
