/-
  What visorref.Text answers, for every platform, encoding, string of at most 1048576 bytes and limit: what visor.Text answers; and that the law Texts then answers true.
-/
import Derived.Test.YteibjmlimcpaoaaDoorRefe
import Derived.Test.YteibjmlimcpaoaaDoorReff
import Derived.Test.YteibjmlimcpaoaaDoorRefg
set_option linter.unusedVariables false
namespace Go.Proofs.YteibjmlimcpaoaaDoor.T
open Go.RowKit

set_option maxRecDepth 100000 in
set_option maxHeartbeats 1000000 in
theorem ref6_no3 (q : Int) (s : ByteArray) (limit : Int) (w : World) (h1 : (q == 1) = false) (h2 : (q == 10) = false) :
    Calls Tryd.prog 10 #[.int .i64 3, .int .i64 q, .string s, .int .i64 limit] w fun e w' => e = .returned (.tuple #[.string ⟨#[]⟩, .int .i64 0, .int .i64 7]) ∧ Below w.heap.size w w' := by
  go_enter Tryd.func10, Tryd.ntmps10
  go_wp2
  go_ret3
  exact ⟨rfl, Below.refl _ _⟩

set_option maxRecDepth 100000 in
set_option maxHeartbeats 1000000 in
theorem ref6_no1 (q : Int) (s : ByteArray) (limit : Int) (w : World) (h1 : (q == 0) = false) :
    Calls Tryd.prog 10 #[.int .i64 1, .int .i64 q, .string s, .int .i64 limit] w fun e w' => e = .returned (.tuple #[.string ⟨#[]⟩, .int .i64 0, .int .i64 7]) ∧ Below w.heap.size w w' := by
  go_enter Tryd.func10, Tryd.ntmps10
  go_wp2
  go_ret3
  exact ⟨rfl, Below.refl _ _⟩

set_option maxRecDepth 100000 in
set_option maxHeartbeats 1000000 in
theorem ref6_no (p q : Int) (s : ByteArray) (limit : Int) (w : World) (h0 : (p == 0) = false) (h1 : (p == 1) = false) (h3 : (p == 3) = false) :
    Calls Tryd.prog 10 #[.int .i64 p, .int .i64 q, .string s, .int .i64 limit] w fun e w' => e = .returned (.tuple #[.string ⟨#[]⟩, .int .i64 0, .int .i64 7]) ∧ Below w.heap.size w w' := by
  go_enter Tryd.func10, Tryd.ntmps10
  go_wp2
  go_ret3
  exact ⟨rfl, Below.refl _ _⟩

set_option maxRecDepth 100000 in
set_option maxHeartbeats 1000000 in
theorem ref6_bad0 (q : Int) (s : ByteArray) (limit : Int) (w : World) (hs : s.size ≤ 1048576) (ho : (s.size : Int) % 2 = 1) :
    Calls Tryd.prog 10 #[.int .i64 0, .int .i64 q, .string s, .int .i64 limit] w fun e w' => e = .returned (.tuple #[.string ⟨#[]⟩, .int .i64 0, .int .i64 6]) ∧ Below w.heap.size w w' := by
  go_enter Tryd.func10, Tryd.ntmps10
  go_wp2
  go_ret3
  exact ⟨rfl, Below.refl _ _⟩
set_option maxRecDepth 100000 in
set_option maxHeartbeats 1000000 in
theorem ref6_bad1 (s : ByteArray) (limit : Int) (w : World) (hs : s.size ≤ 1048576) (ho : (s.size : Int) % 2 = 1) :
    Calls Tryd.prog 10 #[.int .i64 3, .int .i64 1, .string s, .int .i64 limit] w fun e w' => e = .returned (.tuple #[.string ⟨#[]⟩, .int .i64 0, .int .i64 6]) ∧ Below w.heap.size w w' := by
  go_enter Tryd.func10, Tryd.ntmps10
  go_wp2
  go_ret3
  exact ⟨rfl, Below.refl _ _⟩
set_option maxRecDepth 100000 in
set_option maxHeartbeats 1000000 in
theorem ref6_bad10 (s : ByteArray) (limit : Int) (w : World) (hs : s.size ≤ 1048576) (ho : (s.size : Int) % 2 = 1) :
    Calls Tryd.prog 10 #[.int .i64 3, .int .i64 10, .string s, .int .i64 limit] w fun e w' => e = .returned (.tuple #[.string ⟨#[]⟩, .int .i64 0, .int .i64 6]) ∧ Below w.heap.size w w' := by
  go_enter Tryd.func10, Tryd.ntmps10
  go_wp2
  go_ret3
  exact ⟨rfl, Below.refl _ _⟩

theorem ref6 (p q : Int) (s : ByteArray) (limit : Int) (w : World) (r : List UInt8 × Int × Int) (hs : s.size ≤ 1048576) (hr : textOf p q s.data.toList limit = r) :
    Calls Tryd.prog 10 #[.int .i64 p, .int .i64 q, .string s, .int .i64 limit] w fun e w' => e = .returned (.tuple #[.string ⟨r.1.toArray⟩, .int .i64 r.2.1, .int .i64 r.2.2]) ∧ Below w.heap.size w w' := by
  have hl : s.data.toList.length = s.size := by simp
  subst hr
  unfold textOf
  rw [hl]
  cases h2 : twoB p q
  · cases h1 : oneB p q
    · simp only [twoB, oneB, decide_eq_false_iff_not] at h1 h2
      by_cases p3 : p = 3
      · subst p3
        exact ref6_no3 q s limit w (by simp only [beq_eq_false_iff_ne]; omega) (by simp only [beq_eq_false_iff_ne]; omega)
      · by_cases p1 : p = 1
        · subst p1
          exact ref6_no1 q s limit w (by simp only [beq_eq_false_iff_ne]; omega)
        · exact ref6_no p q s limit w (by simp only [beq_eq_false_iff_ne]; omega) (by simp only [beq_eq_false_iff_ne]; omega) (by simp only [beq_eq_false_iff_ne]; omega)
    · simp only [oneB, decide_eq_true_eq] at h1
      obtain ⟨rfl, rfl⟩ := h1
      exact ref6N s limit w _ hs rfl
  · simp only [twoB, decide_eq_true_eq] at h2
    by_cases ho : s.size % 2 = 1
    · rw [if_pos ho]
      rcases h2 with rfl | ⟨rfl, rfl | rfl⟩
      · exact ref6_bad0 q s limit w hs (by omega)
      · exact ref6_bad1 s limit w hs (by omega)
      · exact ref6_bad10 s limit w hs (by omega)
    · rw [if_neg ho]
      rcases h2 with rfl | ⟨rfl, rfl | rfl⟩
      · exact ref6W0 q s limit w _ hs (by omega) rfl
      · exact ref6W1 s limit w _ hs (by omega) rfl
      · exact ref6W10 s limit w _ hs (by omega) rfl

theorem first_text : textOf 0 0 [32, 14, 216, 0, 0, 65] 60 = ([60, 50, 48, 48, 101, 62, 239, 191, 189, 65], 3, 0) := by decide +kernel

set_option maxRecDepth 100000 in
set_option maxHeartbeats 1000000 in
theorem texts3 (p q : Int) (s : ByteArray) (limit : Int) (w : World) (hs : s.size ≤ 1048576) (ht : Tab w) :
    Calls Tryd.prog 3 #[.int .i64 p, .int .i64 q, .string s, .int .i64 limit] w fun e w' => e = .returned (.bool true) ∧ Below w.heap.size w w' := by
  obtain ⟨r, hr⟩ : ∃ r, textOf p q s.data.toList limit = r := ⟨_, rfl⟩
  have A := Lib.hid (text5 0 0 ⟨#[32, 14, 216, 0, 0, 65]⟩ 60 w _ (by decide) ht first_text)
  have B := Lib.hid (fun w ht => text5 p q s limit w r hs ht hr)
  have C := Lib.hid (fun w => ref6 p q s limit w r hs hr)
  clear hr
  obtain ⟨r1, r2, r3⟩ := r
  go_enter Tryd.func3, Tryd.ntmps3
  go_wp2_with (go_at_call 9; refine A.out.mono ?_; rintro e w1 ⟨rfl, hb1⟩; refine Hid.out ?_)
  have ht1 := ht.on hb1
  refine Lib.hid ?_
  go_wp2_with (go_at_call 9; refine (B.out _ ht1).mono ?_; rintro e w2 ⟨rfl, hb2⟩; refine Hid.out ?_)
  refine Lib.hid ?_
  go_wp2_with (go_at_call 10; refine (C.out _).mono ?_; rintro e w3 ⟨rfl, hb3⟩)
  go_ret
  refine ⟨rfl, (hb1.trans (hb2.mono hb1.size)).trans (hb3.mono ?_)⟩
  exact Nat.le_trans hb1.size hb2.size
end Go.Proofs.YteibjmlimcpaoaaDoor.T
