/-
  The document's own side: what visorref.head answers, of a table's bytes.
  The document's own side: what visorref.kind answers.
  The document's own side: what visorref.kind answers, of every string.
-/
import Derived.Test.YteibjmlimcpaoaaGreatDoorRa
import Derived.Test.YteibjmlimcpaoaaGreatDoorWb
import Derived.Test.YteibjmlimcpaoaaGreatDoorPa
set_option linter.unusedVariables false
set_option linter.unusedSimpArgs false
namespace Go.Proofs.YteibjmlimcpaoaaGreatDoor.V
open Go.RowKit Go.Sort
open Go.Proofs.YteibjmlimcpaoaaGreatDoor.W (at_below at_alloc new_at below_alloc cellsAt str_eq str_ne)

theorem cut_is (l : List UInt8) (a b : Nat) : (ByteArray.mk l.toArray).extract a b = ⟨((l.drop a).take (b - a)).toArray⟩ := by
  apply ByteArray.ext
  simp [ByteArray.data_extract, List.extract_toArray, List.extract_eq_take_drop]

set_option maxRecDepth 100000 in
set_option maxHeartbeats 1000000 in
theorem headV (l : List UInt8) (w : World) (hl : l.length ≤ 9223372036854775807) :
    Calls Tryz.prog 37 #[.string ⟨l.toArray⟩] w fun e w' => e = .returned (.agg #[.int .i64 (((headL l).1 : Nat) : Int), .int .i64 (((headL l).2.1 : Nat) : Int), .int .i64 (((headL l).2.2 : Nat) : Int)]) ∧ Below w.heap.size w w' := by
  by_cases h1 : l.length < 54
  · have e : headL l = (5, 0, 0) := by unfold headL; rw [if_pos h1]
    rw [e]
    have c1 : (l.length : Int) < 54 := by omega
    go_enter Tryz.func37, Tryz.ntmps37
    go_wp2
    have v0 := cellsAt (new_at w (.cells #[.int .i64 5, .int .i64 0, .int .i64 0] 32)) 0
    have v1 := cellsAt (new_at w (.cells #[.int .i64 5, .int .i64 0, .int .i64 0] 32)) 1
    have v2 := cellsAt (new_at w (.cells #[.int .i64 5, .int .i64 0, .int .i64 0] 32)) 2
    simp only [List.getElem?_toArray, List.getElem?_cons_zero, List.getElem?_cons_succ] at v0 v1 v2
    exact bodyPost_ret (v := .agg #[.int .i64 5, .int .i64 0, .int .i64 0]) (by simp [results, Tryz.results37, go_sem, v0, v1, v2]) rfl ⟨rfl, below_alloc _ _⟩
  · have A := Lib.hid (fun (w : World) => number2 l 18 w (by omega) hl)
    have B := Lib.hid (fun (w : World) => number2 l 16 w (by omega) hl)
    have c1 : ¬ ((l.length : Int) < 54) := by omega
    have hsz : (⟨l.toArray⟩ : ByteArray).size = l.length := by show Array.size _ = _; simp
    have s1 : (16 : Int) ≤ (l.length : Int) := by omega
    have s2 : 16 ≤ l.length := by omega
    obtain ⟨x, hx⟩ : ∃ x : Int, ((num2 l 18 : Nat) : Int) = x := ⟨_, rfl⟩
    obtain ⟨y, hy⟩ : ∃ y : Int, ((num2 l 16 : Nat) : Int) = y := ⟨_, rfl⟩
    simp only [hx] at A
    simp only [hy] at B
    have e : headL l = if (l.drop 12).take 4 ≠ [95, 15, 60, 245] ∨ num2 l 18 < 16 ∨ 16384 < num2 l 18 then (6, 0, 0) else (0, num2 l 16, num2 l 18) := by unfold headL; rw [if_neg h1]
    by_cases hm : (l.drop 12).take 4 = [95, 15, 60, 245]
    · have hb : (((ByteArray.mk l.toArray).extract 12 16).toList == (ByteArray.mk #[95, 15, 60, 245]).toList) = true := str_eq (by rw [cut_is, hm])
      have hb' : (ByteArray.mk l.toArray).extract 12 16 = ⟨#[95, 15, 60, 245]⟩ := by rw [cut_is, hm]
      by_cases hlo : x < 16
      · rw [e, if_pos (by omega)]
        clear e hx hy
        go_enter Tryz.func37, Tryz.ntmps37
        go_wp2_with (first
          | (go_at_call_of 59 (Value.int IntKind.i64 18); refine (A.out _).mono ?_; rintro e w1 ⟨rfl, hw1⟩; have hw1 := hw1.symm; subst hw1)
          | (go_at_call 59; refine (B.out _).mono ?_; rintro e w1 ⟨rfl, hw1⟩; have hw1 := hw1.symm; subst hw1))
        have v0 := cellsAt (new_at w (.cells #[.int .i64 6, .int .i64 0, .int .i64 0] 32)) 0
        have v1 := cellsAt (new_at w (.cells #[.int .i64 6, .int .i64 0, .int .i64 0] 32)) 1
        have v2 := cellsAt (new_at w (.cells #[.int .i64 6, .int .i64 0, .int .i64 0] 32)) 2
        simp only [List.getElem?_toArray, List.getElem?_cons_zero, List.getElem?_cons_succ] at v0 v1 v2
        exact bodyPost_ret (v := .agg #[.int .i64 6, .int .i64 0, .int .i64 0]) (by simp [results, Tryz.results37, go_sem, v0, v1, v2]) rfl ⟨rfl, below_alloc _ _⟩
      · by_cases hhi : 16384 < x
        · rw [e, if_pos (by omega)]
          clear e hx hy
          go_enter Tryz.func37, Tryz.ntmps37
          go_wp2_with (first
            | (go_at_call_of 59 (Value.int IntKind.i64 18); refine (A.out _).mono ?_; rintro e w1 ⟨rfl, hw1⟩; have hw1 := hw1.symm; subst hw1)
            | (go_at_call 59; refine (B.out _).mono ?_; rintro e w1 ⟨rfl, hw1⟩; have hw1 := hw1.symm; subst hw1))
          have v0 := cellsAt (new_at w (.cells #[.int .i64 6, .int .i64 0, .int .i64 0] 32)) 0
          have v1 := cellsAt (new_at w (.cells #[.int .i64 6, .int .i64 0, .int .i64 0] 32)) 1
          have v2 := cellsAt (new_at w (.cells #[.int .i64 6, .int .i64 0, .int .i64 0] 32)) 2
          simp only [List.getElem?_toArray, List.getElem?_cons_zero, List.getElem?_cons_succ] at v0 v1 v2
          exact bodyPost_ret (v := .agg #[.int .i64 6, .int .i64 0, .int .i64 0]) (by simp [results, Tryz.results37, go_sem, v0, v1, v2]) rfl ⟨rfl, below_alloc _ _⟩
        · have hno : ¬ ((l.drop 12).take 4 ≠ [95, 15, 60, 245] ∨ num2 l 18 < 16 ∨ 16384 < num2 l 18) := by
            rintro (h | h | h)
            · exact h hm
            · omega
            · omega
          rw [e, if_neg hno, hx, hy]
          clear hno
          clear e hx hy
          go_enter Tryz.func37, Tryz.ntmps37
          go_wp2_with (first
            | (go_at_call_of 59 (Value.int IntKind.i64 18); refine (A.out _).mono ?_; rintro e w1 ⟨rfl, hw1⟩; have hw1 := hw1.symm; subst hw1)
            | (go_at_call 59; refine (B.out _).mono ?_; rintro e w1 ⟨rfl, hw1⟩; have hw1 := hw1.symm; subst hw1))
          have v0 := cellsAt (new_at w (.cells #[.int .i64 0, .int .i64 y, .int .i64 x] 32)) 0
          have v1 := cellsAt (new_at w (.cells #[.int .i64 0, .int .i64 y, .int .i64 x] 32)) 1
          have v2 := cellsAt (new_at w (.cells #[.int .i64 0, .int .i64 y, .int .i64 x] 32)) 2
          simp only [List.getElem?_toArray, List.getElem?_cons_zero, List.getElem?_cons_succ] at v0 v1 v2
          exact bodyPost_ret (v := .agg #[.int .i64 0, .int .i64 y, .int .i64 x]) (by simp [results, Tryz.results37, go_sem, v0, v1, v2]) rfl ⟨rfl, below_alloc _ _⟩
    · have hb : (((ByteArray.mk l.toArray).extract 12 16).toList == (ByteArray.mk #[95, 15, 60, 245]).toList) = false := str_ne (fun h => hm (by rw [cut_is] at h; have := congrArg (fun b : ByteArray => b.data.toList) h; simpa using this))
      have hne : ¬ ((ByteArray.mk l.toArray).extract 12 16).toList = [95, 15, 60, 245] := fun h => hm (by rw [ByteArray.toList_eq, cut_is] at h; simpa using h)
      rw [e, if_pos (.inl hm)]
      clear e hx hy
      go_enter Tryz.func37, Tryz.ntmps37
      go_wp2_with (first
        | (go_at_call_of 59 (Value.int IntKind.i64 18); refine (A.out _).mono ?_; rintro e w1 ⟨rfl, hw1⟩; have hw1 := hw1.symm; subst hw1)
        | (go_at_call 59; refine (B.out _).mono ?_; rintro e w1 ⟨rfl, hw1⟩; have hw1 := hw1.symm; subst hw1))
      have v0 := cellsAt (new_at w (.cells #[.int .i64 6, .int .i64 0, .int .i64 0] 32)) 0
      have v1 := cellsAt (new_at w (.cells #[.int .i64 6, .int .i64 0, .int .i64 0] 32)) 1
      have v2 := cellsAt (new_at w (.cells #[.int .i64 6, .int .i64 0, .int .i64 0] 32)) 2
      simp only [List.getElem?_toArray, List.getElem?_cons_zero, List.getElem?_cons_succ] at v0 v1 v2
      exact bodyPost_ret (v := .agg #[.int .i64 6, .int .i64 0, .int .i64 0]) (by simp [results, Tryz.results37, go_sem, v0, v1, v2]) rfl ⟨rfl, below_alloc _ _⟩
end Go.Proofs.YteibjmlimcpaoaaGreatDoor.V

set_option linter.unusedVariables false
set_option linter.unusedSimpArgs false
namespace Go.Proofs.YteibjmlimcpaoaaGreatDoor.V
open Go.RowKit Go.Sort

theorem lit_ne {l : List UInt8} {k : List UInt8} (h : ¬ l.take 4 = k) : ¬ ((ByteArray.mk l.toArray).extract 0 4).toList = k := fun e => h (by
  rw [ByteArray.toList_eq, cut_is] at e
  simpa using e)
theorem lit_eq {l : List UInt8} {k : List UInt8} (h : l.take 4 = k) : (ByteArray.mk l.toArray).extract 0 4 = ⟨k.toArray⟩ := by
  rw [cut_is, ← h]
  simp

set_option maxRecDepth 100000 in
set_option maxHeartbeats 1000000 in
/-- behind the opening: how many tables -/
theorem kind_any (l : List UInt8) (w : World) (hl : l.length ≤ 9223372036854775807) (h1 : ¬ l.length < 12) (k : Nat) (hk : kindOf (l.take 4) = k) (hk3 : k ≤ 3) (x : Nat) (hx : num2 l 4 = x) (hx2 : x < 65536) (B : ByteArray) (hB : (ByteArray.mk l.toArray).extract 0 4 = B)
    (hc : (B = ⟨#[0, 1, 0, 0]⟩ ∧ k = 1) ∨ (B = ⟨#[116, 114, 117, 101]⟩ ∧ k = 1) ∨ (B = ⟨#[79, 84, 84, 79]⟩ ∧ k = 2)) :
    Calls Tryz.prog 34 #[.string ⟨l.toArray⟩] w fun e w' => e = .returned (.tuple #[.int .i64 ((kindL l).1 : Int), .int .i64 ((kindL l).2 : Int)]) ∧ w' = w := by
  have A := Lib.hid (fun (w : World) => number2 l 4 w (by omega) hl)
  have hsz : (⟨l.toArray⟩ : ByteArray).size = l.length := by show Array.size _ = _; simp
  have c1 : ¬ ((l.length : Int) < 12) := by omega
  have s1 : (4 : Int) ≤ (l.length : Int) := by omega
  have e : kindL l = if 16 < x ∨ l.length < 12 + 16 * x then (0, 0) else (k, x) := by
    unfold kindL
    rw [if_neg h1, hk, hx, if_neg (by omega)]
    by_cases h : 16 < x ∨ l.length < 12 + 16 * x
    · rw [if_pos (.inr h), if_pos h]
    · rw [if_neg (by omega), if_neg h]
  rw [e]
  rw [hx] at A
  clear e hk hx
  by_cases g1 : 16 < x
  · have d1 : (16 : Int) < (x : Int) := by omega
    rw [if_pos (.inl g1)]
    rcases hc with ⟨rfl, rfl⟩ | ⟨rfl, rfl⟩ | ⟨rfl, rfl⟩
    all_goals (
      go_enter Tryz.func34, Tryz.ntmps34
      go_wp2_with (go_at_call 59; refine (A.out _).mono ?_; rintro e w1 ⟨rfl, hw1⟩; have hw1 := hw1.symm; subst hw1)
      go_ret2
      exact ⟨rfl, rfl⟩)
  · have d1 : ¬ ((16 : Int) < (x : Int)) := by omega
    by_cases g2 : l.length < 12 + 16 * x
    · have d2 : (l.length : Int) < 12 + 16 * (x : Int) := by omega
      rw [if_pos (.inr g2)]
      rcases hc with ⟨rfl, rfl⟩ | ⟨rfl, rfl⟩ | ⟨rfl, rfl⟩
      all_goals (
        go_enter Tryz.func34, Tryz.ntmps34
        go_wp2_with (go_at_call 59; refine (A.out _).mono ?_; rintro e w1 ⟨rfl, hw1⟩; have hw1 := hw1.symm; subst hw1)
        go_ret2
        exact ⟨rfl, rfl⟩)
    · have d2 : ¬ ((l.length : Int) < 12 + 16 * (x : Int)) := by omega
      rw [if_neg (by omega)]
      rcases hc with ⟨rfl, rfl⟩ | ⟨rfl, rfl⟩ | ⟨rfl, rfl⟩
      all_goals (
        go_enter Tryz.func34, Tryz.ntmps34
        go_wp2_with (go_at_call 59; refine (A.out _).mono ?_; rintro e w1 ⟨rfl, hw1⟩; have hw1 := hw1.symm; subst hw1)
        go_ret2
        exact ⟨rfl, rfl⟩)
end Go.Proofs.YteibjmlimcpaoaaGreatDoor.V

set_option linter.unusedVariables false
set_option linter.unusedSimpArgs false
namespace Go.Proofs.YteibjmlimcpaoaaGreatDoor.V
open Go.RowKit Go.Sort
open Go.Proofs.YteibjmlimcpaoaaGreatDoor.W (str_eq str_ne)

theorem litB_ne {l : List UInt8} {k : List UInt8} (h : ¬ l.take 4 = k) : (((ByteArray.mk l.toArray).extract 0 4).toList == k) = false := beq_eq_false_iff_ne.2 (lit_ne h)

set_option maxRecDepth 100000 in
set_option maxHeartbeats 1000000 in
theorem kindV (l : List UInt8) (w : World) (hl : l.length ≤ 9223372036854775807) :
    Calls Tryz.prog 34 #[.string ⟨l.toArray⟩] w fun e w' => e = .returned (.tuple #[.int .i64 ((kindL l).1 : Int), .int .i64 ((kindL l).2 : Int)]) ∧ w' = w := by
  by_cases h1 : l.length < 12
  · have e : kindL l = (0, 0) := by unfold kindL; rw [if_pos h1]
    rw [e]
    have c1 : (l.length : Int) < 12 := by omega
    go_enter Tryz.func34, Tryz.ntmps34
    go_wp2
    go_ret2
    exact ⟨rfl, rfl⟩
  · have hx2 := num2_lt l 4
    have hsz : (⟨l.toArray⟩ : ByteArray).size = l.length := by show Array.size _ = _; simp
    have c1 : ¬ ((l.length : Int) < 12) := by omega
    have s1 : (4 : Int) ≤ (l.length : Int) := by omega
    by_cases a1 : l.take 4 = [0, 1, 0, 0]
    · exact kind_any l w hl h1 1 (by rw [a1]; rfl) (by omega) _ rfl hx2 _ (lit_eq a1) (.inl ⟨rfl, rfl⟩)
    by_cases a2 : l.take 4 = [116, 114, 117, 101]
    · exact kind_any l w hl h1 1 (by rw [a2]; rfl) (by omega) _ rfl hx2 _ (lit_eq a2) (.inr (.inl ⟨rfl, rfl⟩))
    by_cases a3 : l.take 4 = [79, 84, 84, 79]
    · exact kind_any l w hl h1 2 (by rw [a3]; rfl) (by omega) _ rfl hx2 _ (lit_eq a3) (.inr (.inr ⟨rfl, rfl⟩))
    by_cases a4 : l.take 4 = [116, 116, 99, 102] ∨ l.take 4 = [119, 79, 70, 70] ∨ l.take 4 = [119, 79, 70, 50]
    · have e : kindL l = (3, 0) := by
        unfold kindL
        rw [if_neg h1, if_pos]
        rcases a4 with a | a | a <;> rw [a] <;> rfl
      rw [e]
      obtain ⟨B, hB⟩ : ∃ B, (ByteArray.mk l.toArray).extract 0 4 = B := ⟨_, rfl⟩
      have hc : B = ⟨#[116, 116, 99, 102]⟩ ∨ B = ⟨#[119, 79, 70, 70]⟩ ∨ B = ⟨#[119, 79, 70, 50]⟩ := by
        rw [← hB]
        rcases a4 with a | a | a
        · exact .inl (lit_eq a)
        · exact .inr (.inl (lit_eq a))
        · exact .inr (.inr (lit_eq a))
      clear e a1 a2 a3 a4
      rcases hc with rfl | rfl | rfl
      all_goals (
        go_enter Tryz.func34, Tryz.ntmps34
        go_wp2
        go_ret2
        exact ⟨rfl, rfl⟩)
    · have e : kindL l = (0, 0) := by
        have hk : kindOf (l.take 4) = 0 := by
          unfold kindOf
          rw [if_neg (fun h => h.elim a1 a2), if_neg a3, if_neg a4]
        unfold kindL
        rw [if_neg h1, hk, if_neg (by omega), if_pos (.inl rfl)]
      rw [e]
      have A := Lib.hid (fun (w : World) => number2 l 4 w (by omega) hl)
      have b4 : ¬ l.take 4 = [116, 116, 99, 102] := fun h => a4 (.inl h)
      have b5 : ¬ l.take 4 = [119, 79, 70, 70] := fun h => a4 (.inr (.inl h))
      have b6 : ¬ l.take 4 = [119, 79, 70, 50] := fun h => a4 (.inr (.inr h))
      have n1 := lit_ne a1
      have n2 := lit_ne a2
      have n3 := lit_ne a3
      have n4 := lit_ne b4
      have n5 := lit_ne b5
      have n6 := lit_ne b6
      have m1 := litB_ne a1
      have m2 := litB_ne a2
      have m3 := litB_ne a3
      have m4 := litB_ne b4
      have m5 := litB_ne b5
      have m6 := litB_ne b6
      clear e a1 a2 a3 a4 b4 b5 b6
      go_enter Tryz.func34, Tryz.ntmps34
      go_wp2_with (go_at_call 59; refine (A.out _).mono ?_; rintro e w1 ⟨rfl, hw1⟩; have hw1 := hw1.symm; subst hw1)
      all_goals (first | (go_ret2; exact ⟨rfl, rfl⟩) | trace_state)
end Go.Proofs.YteibjmlimcpaoaaGreatDoor.V
