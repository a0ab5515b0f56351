/-
  visorkeep.pick with 100: a number from 0 to 99, for every int; visorkeep.clean: true, for every string of at most 8388608 bytes that is made of characters in UTF-8 none of which is harmful.
-/
import Derived.Test.YteibjmlimcpaoaaDoorToldPlain
set_option linter.unusedVariables false
namespace Go.Proofs.YteibjmlimcpaoaaDoor.T
open Go.RowKit

theorem ret_int {k : IntKind} {a b : Int} (h : a = b) : Ending.returned (.int k a) = .returned (.int k b) := by rw [h]

set_option maxRecDepth 100000 in
set_option maxHeartbeats 1000000 in
theorem pick7 (c : Int) (w : World) (h0 : -9223372036854775808 ≤ c) (h1 : c ≤ 9223372036854775807) :
    Calls Tryd.prog 11 #[.int .i64 c, .int .i64 100] w fun e w' => ∃ m : Nat, m < 100 ∧ e = .returned (.int .i64 m) ∧ w' = w := by
  by_cases hc : c < 0
  · go_enter Tryd.func11, Tryd.ntmps11
    go_wp2
    go_ret
    refine ⟨((-(c + 1)) % 100).toNat, by omega, ret_int ?_, rfl⟩
    rw [← Int.neg_tmod, Int.tmod_eq_emod_of_nonneg (by omega)]
    omega
  · have hc' : 0 ≤ c := by omega
    go_enter Tryd.func11, Tryd.ntmps11
    go_wp2
    go_ret
    exact ⟨(c % 100).toNat, by omega, ret_int (by omega), rfl⟩

/-- what the first j bytes of a character's n bytes tell of it -/
def part (c n j : Nat) : Nat := c / 64 ^ (n - j)
theorem part_all (c n : Nat) : part c n n = c := by simp [part]
theorem part_step (c n j : Nat) (h : j < n) : part c n (j + 1) = 64 * part c n j + part c n (j + 1) % 64 := by
  have e : part c n j = part c n (j + 1) / 64 := by
    unfold part
    rw [show n - j = (n - (j + 1)) + 1 by omega, Nat.pow_succ, Nat.div_div_eq_div_mul]
  omega

theorem byte_nat (m : Nat) (h : m < 256) : (UInt8.ofNat m).toNat = m := by
  rw [UInt8.toNat_ofNat']
  omega

/-- the bytes of a character, one by one -/
theorem utf_bytes (c n : Nat) (lead : Nat) (hc : c ≤ 1114111) (hn : (n = 1 ∧ lead = 0 ∧ c < 128) ∨ (n = 2 ∧ lead = 192 ∧ 128 ≤ c ∧ c < 2048) ∨ (n = 3 ∧ lead = 224 ∧ 2048 ≤ c ∧ c < 65536) ∨ (n = 4 ∧ lead = 240 ∧ 65536 ≤ c)) :
    (utf8L c).length = n ∧ ((utf8L c).getD 0 0).toNat = lead + part c n 1 ∧ ∀ j, 1 ≤ j → j < n → ((utf8L c).getD j 0).toNat = 128 + part c n (j + 1) % 64 := by
  rcases hn with ⟨rfl, rfl, h1⟩ | ⟨rfl, rfl, h1, h2⟩ | ⟨rfl, rfl, h1, h2⟩ | ⟨rfl, rfl, h1⟩
  · have e : utf8L c = [UInt8.ofNat c] := by unfold utf8L; rw [if_pos h1]
    rw [e]
    refine ⟨rfl, ?_, fun j a b => by omega⟩
    show (UInt8.ofNat c).toNat = _
    rw [byte_nat c (by omega), part_all]
    omega
  · have e : utf8L c = [UInt8.ofNat (192 + c / 64), UInt8.ofNat (128 + c % 64)] := by unfold utf8L; rw [if_neg (by omega), if_pos h2]
    rw [e]
    refine ⟨rfl, ?_, ?_⟩
    · show (UInt8.ofNat _).toNat = 192 + c / 64 ^ 1
      rw [byte_nat _ (by omega), Nat.pow_one]
    · intro j a b
      obtain rfl : j = 1 := by omega
      show (UInt8.ofNat _).toNat = 128 + c / 64 ^ 0 % 64
      rw [byte_nat _ (by omega), Nat.pow_zero, Nat.div_one]
  · have e : utf8L c = [UInt8.ofNat (224 + c / 4096), UInt8.ofNat (128 + c / 64 % 64), UInt8.ofNat (128 + c % 64)] := by unfold utf8L; rw [if_neg (by omega), if_neg (by omega), if_pos h2]
    rw [e]
    refine ⟨rfl, ?_, ?_⟩
    · show (UInt8.ofNat _).toNat = 224 + c / 64 ^ 2
      rw [byte_nat _ (by omega)]
    · intro j a b
      have hj : j = 1 ∨ j = 2 := by omega
      rcases hj with rfl | rfl
      · show (UInt8.ofNat _).toNat = 128 + c / 64 ^ 1 % 64
        rw [byte_nat _ (by omega), Nat.pow_one]
      · show (UInt8.ofNat _).toNat = 128 + c / 64 ^ 0 % 64
        rw [byte_nat _ (by omega), Nat.pow_zero, Nat.div_one]
  · have e : utf8L c = [UInt8.ofNat (240 + c / 262144), UInt8.ofNat (128 + c / 4096 % 64), UInt8.ofNat (128 + c / 64 % 64), UInt8.ofNat (128 + c % 64)] := by unfold utf8L; rw [if_neg (by omega), if_neg (by omega), if_neg (by omega)]
    rw [e]
    refine ⟨rfl, ?_, ?_⟩
    · show (UInt8.ofNat _).toNat = 240 + c / 64 ^ 3
      rw [byte_nat _ (by omega)]
    · intro j a b
      have hj : j = 1 ∨ j = 2 ∨ j = 3 := by omega
      rcases hj with rfl | rfl | rfl
      · show (UInt8.ofNat _).toNat = 128 + c / 64 ^ 2 % 64
        rw [byte_nat _ (by omega)]
      · show (UInt8.ofNat _).toNat = 128 + c / 64 ^ 1 % 64
        rw [byte_nat _ (by omega), Nat.pow_one]
      · show (UInt8.ofNat _).toNat = 128 + c / 64 ^ 0 % 64
        rw [byte_nat _ (by omega), Nat.pow_zero, Nat.div_one]

theorem getD_left (a b : List UInt8) (j : Nat) (h : j < a.length) : (a ++ b).getD j 0 = a.getD j 0 := by
  rw [List.getD_eq_getElem?_getD, List.getD_eq_getElem?_getD, List.getElem?_append_left h]
end Go.Proofs.YteibjmlimcpaoaaDoor.T
