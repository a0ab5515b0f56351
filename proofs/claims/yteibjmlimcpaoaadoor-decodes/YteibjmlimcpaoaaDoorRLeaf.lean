/-
  What the small functions of the document's answer on reports give: visorref.to, one, two, four, for every number in the range that they are called at; nothing that lay in memory turns.
-/
import Derived.Test.YteibjmlimcpaoaaDoorProg
import Derived.Test.YteibjmlimcpaoaaDoorBase
import Derived.WalkKit
import Derived.BigCall
import Derived.Deep.QuietTactic
import Derived.BigQuiet
import Derived.Lib.Hide
import Derived.Lib.UnsafeStr
import Derived.Lib.QuietBelow
set_option linter.unusedVariables false
namespace Go.Proofs.YteibjmlimcpaoaaDoor
open Go.RowKit

theorem ret_bool {a b : Bool} (h : a = b) : Ending.returned (.bool a) = .returned (.bool b) := by rw [h]
theorem ret_str {a b : ByteArray} (h : a = b) : Ending.returned (.string a) = Ending.returned (.string b) := by rw [h]
theorem addr_add (b o j : Nat) : (⟨b, o, none⟩ : Addr).add j = ⟨b, o + j, none⟩ := by simp [Addr.add]
theorem ba_append (a b : Array UInt8) : (ByteArray.mk a ++ ByteArray.mk b) = ByteArray.mk (a ++ b) := by
  apply ByteArray.ext
  simp

/-- is a number from 0 to top? -/
def toB (top n : Int) : Bool := decide (0 ≤ n ∧ n ≤ top)
def oneL (n : Nat) : List UInt8 := [UInt8.ofNat n]
def twoL (n : Nat) : List UInt8 := [UInt8.ofNat (n / 256), UInt8.ofNat n]
def fourL (n : Nat) : List UInt8 := twoL (n / 65536) ++ twoL n

set_option maxHeartbeats 400000 in
theorem to17 (top n : Int) (w : World) :
    Calls Tryd.prog 37 #[.int .i64 top, .int .i64 n] w fun e w' => e = .returned (.bool (toB top n)) ∧ w' = w := by
  go_enter Tryd.func37, Tryd.ntmps37
  go_wp2
  all_goals go_ret
  all_goals refine ⟨ret_bool ?_, rfl⟩
  all_goals rw [Bool.eq_iff_iff]
  all_goals simp only [toB, decide_eq_true_eq, Bool.false_eq_true, false_iff]
  all_goals omega

theorem run_conv (w : World) (l : List UInt8) (cs : Array Value) (hl : cs.toList = Lib.byteCells l) (n : Nat) (hn : n = l.length) :
    (convert 62 9 (.slice (some ⟨w.heap.size, 0, none⟩) n n)).run Tryd.prog (w.alloc (.cells cs 5)) = .ok (.string ⟨l.toArray⟩) (w.alloc (.cells cs 5)) := by
  subst hn
  refine run_convert_bytes_back _ 62 9 5 ⟨w.heap.size, 0, none⟩ _ l Tryd.underlying62 Tryd.underlying5 Tryd.underlying9 ?_
  intro j hj
  rw [addr_add, World.cell?_alloc_new, ← Array.getElem?_toList, hl]
  simp [Lib.byteCells, hj]

set_option maxRecDepth 100000 in
set_option maxHeartbeats 400000 in
theorem one18 (n : Nat) (w : World) (hn : n < 256) :
    Calls Tryd.prog 38 #[.int .i64 n] w fun e w' => e = .returned (.string ⟨(oneL n).toArray⟩) ∧ Below w.heap.size w w' := by
  have hc := run_conv w (oneL n) #[.int .u8 (n : Int)] (by simp [Lib.byteCells, oneL]; omega) 1 rfl
  generalize oneL n = l at *
  go_enter Tryd.func38, Tryd.ntmps38
  go_wp2
  go_ret
  exact ⟨rfl, (Below.refl _ _).alloc (Nat.le_refl _) _⟩

set_option maxRecDepth 100000 in
set_option maxHeartbeats 400000 in
theorem two19 (n : Nat) (w : World) (hn : n < 4294967296) :
    Calls Tryd.prog 39 #[.int .i64 n] w fun e w' => e = .returned (.string ⟨(twoL n).toArray⟩) ∧ Below w.heap.size w w' := by
  have hc := run_conv w (twoL n) #[.int .u8 ((n : Int) / 256 % 256), .int .u8 ((n : Int) % 256)] (by simp [Lib.byteCells, twoL]) 2 rfl
  generalize twoL n = l at *
  go_enter Tryd.func39, Tryd.ntmps39
  go_wp2
  go_ret
  exact ⟨rfl, (Below.refl _ _).alloc (Nat.le_refl _) _⟩

set_option maxRecDepth 100000 in
set_option maxHeartbeats 400000 in
theorem four20 (n : Nat) (w : World) (hn : n < 4294967296) :
    Calls Tryd.prog 40 #[.int .i64 n] w fun e w' => e = .returned (.string ⟨(fourL n).toArray⟩) ∧ Below w.heap.size w w' := by
  have A := Lib.hid (fun w => two19 (n / 65536) w (by omega))
  rw [show ((n / 65536 : Nat) : Int) = (n : Int) / 65536 by omega] at A
  have B := Lib.hid (fun w => two19 n w hn)
  have e : fourL n = twoL (n / 65536) ++ twoL n := rfl
  rw [e]
  have l1 : (twoL (n / 65536)).length = 2 := rfl
  have l2 : (twoL n).length = 2 := rfl
  generalize twoL (n / 65536) = x at *
  generalize twoL n = y at *
  have l1' : x.length ≤ 2 := by omega
  have l2' : y.length ≤ 2 := by omega
  clear e l1 l2
  go_enter Tryd.func40, Tryd.ntmps40
  go_wp2_with (go_at_call 39; refine (A.out _).mono ?_; rintro e w1 ⟨rfl, hb1⟩; refine Hid.out ?_)
  refine Lib.hid ?_
  go_wp2_with (go_at_call 39; refine (B.out _).mono ?_; rintro e w2 ⟨rfl, hb2⟩)
  go_ret
  refine ⟨ret_str ?_, hb1.trans (hb2.mono hb1.size)⟩
  rw [ba_append]
  simp
end Go.Proofs.YteibjmlimcpaoaaDoor
