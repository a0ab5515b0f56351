/-
  What text.wide answers, for every string of at least two bytes: the first character of two bytes or four.
-/
import Derived.Test.YteibjmlimcpaoaaDoorLeaf
import Derived.Lib.Hide
set_option linter.unusedVariables false
namespace Go.Proofs.YteibjmlimcpaoaaDoor.T
open Go.RowKit

theorem below_drewN {B : Nat} {a w : World} (h : Below B a w) (n : Nat) : Below B a (w.drewN n) := ⟨h.os, h.tape, h.output, h.size, h.block⟩

theorem below_set3 {B : Nat} {a v : World} {x y z : Value} (h : Below B a v) : Below B a (((v.setCell ⟨B, 0, none⟩ x).setCell ⟨B, 1, none⟩ y).setCell ⟨B, 2, none⟩ z) :=
  ((h.setCell (p := ⟨B, 0, none⟩) (Nat.le_refl _) x).setCell (p := ⟨B, 1, none⟩) (Nat.le_refl _) y).setCell (p := ⟨B, 2, none⟩) (Nat.le_refl _) z

theorem pairN_lt (l : List UInt8) : pairN l < 65536 := by
  have h0 := (l.getD 0 0).toNat_lt
  have h1 := (l.getD 1 0).toNat_lt
  unfold pairN
  omega

theorem extract_toList (s : ByteArray) (k : Nat) : (s.extract k s.size).data.toList = s.data.toList.drop k := by
  have h : s.size = s.data.toList.length := by simp
  simp only [ByteArray.data_extract, Array.toList_extract, List.extract_eq_take_drop]
  rw [h, List.take_of_length_le (by simp)]
theorem size_extract2 (s : ByteArray) : (s.extract 2 s.size).size = s.size - 2 := by
  simp [ByteArray.size_extract]

set_option maxRecDepth 100000 in
set_option maxHeartbeats 400000 in
theorem wide18_1 (s : ByteArray) (w : World) (x : Int) (h : 2 ≤ s.size) (hs : s.size ≤ 1048576) (hx : (pairN s.data.toList : Int) = x) (g : x < 55296) :
    Calls Tryd.prog 53 #[.string s] w fun e w' => e = .returned (.agg #[.int .i32 x, .int .i64 2, .bool false]) ∧ Below w.heap.size w w' := by
  have p26 := fun w => pair26 s w (by omega)
  rw [hx] at p26
  have H26 := Lib.hid p26
  clear p26
  clear hx
  go_enter Tryd.func53, Tryd.ntmps53
  go_wp2_with (go_at_call 78; refine (H26.out _).mono ?_; rintro e w' ⟨rfl, n, rfl⟩; refine Hid.out ?_)
  refine Lib.hid ?_
  go_wp2
  refine bodyPost_ret (v := .agg #[.int .i32 x, .int .i64 2, .bool false]) (by simp [results, Tryd.results53, go_sem]) rfl ⟨rfl, ?_⟩
  exact below_set3 (below_drewN ((Below.refl _ _).alloc (Nat.le_refl _) _) _)

set_option maxRecDepth 100000 in
set_option maxHeartbeats 400000 in
theorem wide18_2 (s : ByteArray) (w : World) (x : Int) (h : 2 ≤ s.size) (hs : s.size ≤ 1048576) (hx : (pairN s.data.toList : Int) = x) (g : 57344 ≤ x) :
    Calls Tryd.prog 53 #[.string s] w fun e w' => e = .returned (.agg #[.int .i32 x, .int .i64 2, .bool false]) ∧ Below w.heap.size w w' := by
  have p26 := fun w => pair26 s w (by omega)
  rw [hx] at p26
  have H26 := Lib.hid p26
  clear p26
  have g1 : ¬ x < 55296 := by omega
  clear hx
  go_enter Tryd.func53, Tryd.ntmps53
  go_wp2_with (go_at_call 78; refine (H26.out _).mono ?_; rintro e w' ⟨rfl, n, rfl⟩; refine Hid.out ?_)
  refine Lib.hid ?_
  go_wp2
  refine bodyPost_ret (v := .agg #[.int .i32 x, .int .i64 2, .bool false]) (by simp [results, Tryd.results53, go_sem]) rfl ⟨rfl, ?_⟩
  exact below_set3 (below_drewN ((Below.refl _ _).alloc (Nat.le_refl _) _) _)

set_option maxRecDepth 100000 in
set_option maxHeartbeats 400000 in
theorem wide18_3 (s : ByteArray) (w : World) (x : Int) (h : 2 ≤ s.size) (hs : s.size ≤ 1048576) (hx : (pairN s.data.toList : Int) = x) (g : 56320 ≤ x) (g2 : x < 57344) :
    Calls Tryd.prog 53 #[.string s] w fun e w' => e = .returned (.agg #[.int .i32 65533, .int .i64 2, .bool true]) ∧ Below w.heap.size w w' := by
  have p26 := fun w => pair26 s w (by omega)
  rw [hx] at p26
  have H26 := Lib.hid p26
  clear p26
  have g1 : ¬ x < 55296 := by omega
  clear hx
  go_enter Tryd.func53, Tryd.ntmps53
  go_wp2_with (go_at_call 78; refine (H26.out _).mono ?_; rintro e w' ⟨rfl, n, rfl⟩; refine Hid.out ?_)
  refine Lib.hid ?_
  go_wp2
  refine bodyPost_ret (v := .agg #[.int .i32 65533, .int .i64 2, .bool true]) (by simp [results, Tryd.results53, go_sem]) rfl ⟨rfl, ?_⟩
  exact below_set3 (below_drewN ((Below.refl _ _).alloc (Nat.le_refl _) _) _)

set_option maxRecDepth 100000 in
set_option maxHeartbeats 400000 in
theorem wide18_4 (s : ByteArray) (w : World) (x : Int) (h : 2 ≤ s.size) (hs : s.size ≤ 1048576) (hx : (pairN s.data.toList : Int) = x) (g : 55296 ≤ x) (g2 : x < 56320) (h4 : s.size < 4) :
    Calls Tryd.prog 53 #[.string s] w fun e w' => e = .returned (.agg #[.int .i32 65533, .int .i64 2, .bool true]) ∧ Below w.heap.size w w' := by
  have p26 := fun w => pair26 s w (by omega)
  rw [hx] at p26
  have H26 := Lib.hid p26
  clear p26
  have g3 : x < 57344 := by omega
  have h4i : (s.size : Int) < 4 := by omega
  clear hx
  go_enter Tryd.func53, Tryd.ntmps53
  go_wp2_with (go_at_call 78; refine (H26.out _).mono ?_; rintro e w' ⟨rfl, n, rfl⟩; refine Hid.out ?_)
  refine Lib.hid ?_
  go_wp2
  refine bodyPost_ret (v := .agg #[.int .i32 65533, .int .i64 2, .bool true]) (by simp [results, Tryd.results53, go_sem]) rfl ⟨rfl, ?_⟩
  exact below_set3 (below_drewN ((Below.refl _ _).alloc (Nat.le_refl _) _) _)

set_option maxRecDepth 100000 in
set_option maxHeartbeats 400000 in
theorem wide18_5 (s : ByteArray) (w : World) (x y : Int) (h : 4 ≤ s.size) (hs : s.size ≤ 1048576) (hx : (pairN s.data.toList : Int) = x) (hy : (pairN (s.data.toList.drop 2) : Int) = y) (g : 55296 ≤ x) (g2 : x < 56320) (y1 : y < 56320) :
    Calls Tryd.prog 53 #[.string s] w fun e w' => e = .returned (.agg #[.int .i32 65533, .int .i64 2, .bool true]) ∧ Below w.heap.size w w' := by
  have p26 := fun w => pair26 s w (by omega)
  rw [hx] at p26
  have H26 := Lib.hid p26
  clear p26
  have q26 := fun w => pair26 (s.extract 2 s.size) w (by rw [size_extract2]; omega)
  rw [extract_toList, hy] at q26
  have G26 := Lib.hid q26
  clear q26
  have g3 : x < 57344 := by omega
  have h4i : (4 : Int) ≤ (s.size : Int) := by omega
  clear hx hy
  go_enter Tryd.func53, Tryd.ntmps53
  go_wp2_with (go_at_call 78; refine (H26.out _).mono ?_; rintro e w' ⟨rfl, n, rfl⟩; refine Hid.out ?_)
  refine Lib.hid ?_
  go_wp2_with (go_at_call 78; refine (G26.out _).mono ?_; rintro e w' ⟨rfl, n2, rfl⟩; refine Hid.out ?_)
  refine Lib.hid ?_
  go_wp2
  refine bodyPost_ret (v := .agg #[.int .i32 65533, .int .i64 2, .bool true]) (by simp [results, Tryd.results53, go_sem]) rfl ⟨rfl, ?_⟩
  exact below_set3 (below_drewN ((Below.refl _ _).alloc (Nat.le_refl _) _) _)

set_option maxRecDepth 100000 in
set_option maxHeartbeats 400000 in
theorem wide18_6 (s : ByteArray) (w : World) (x y : Int) (h : 4 ≤ s.size) (hs : s.size ≤ 1048576) (hx : (pairN s.data.toList : Int) = x) (hy : (pairN (s.data.toList.drop 2) : Int) = y) (g : 55296 ≤ x) (g2 : x < 56320) (y1 : 57344 ≤ y) :
    Calls Tryd.prog 53 #[.string s] w fun e w' => e = .returned (.agg #[.int .i32 65533, .int .i64 2, .bool true]) ∧ Below w.heap.size w w' := by
  have p26 := fun w => pair26 s w (by omega)
  rw [hx] at p26
  have H26 := Lib.hid p26
  clear p26
  have q26 := fun w => pair26 (s.extract 2 s.size) w (by rw [size_extract2]; omega)
  rw [extract_toList, hy] at q26
  have G26 := Lib.hid q26
  clear q26
  have g3 : x < 57344 := by omega
  have h4i : (4 : Int) ≤ (s.size : Int) := by omega
  have y2 : 56320 ≤ y := by omega
  clear hx hy
  go_enter Tryd.func53, Tryd.ntmps53
  go_wp2_with (go_at_call 78; refine (H26.out _).mono ?_; rintro e w' ⟨rfl, n, rfl⟩; refine Hid.out ?_)
  refine Lib.hid ?_
  go_wp2_with (go_at_call 78; refine (G26.out _).mono ?_; rintro e w' ⟨rfl, n2, rfl⟩; refine Hid.out ?_)
  refine Lib.hid ?_
  go_wp2
  refine bodyPost_ret (v := .agg #[.int .i32 65533, .int .i64 2, .bool true]) (by simp [results, Tryd.results53, go_sem]) rfl ⟨rfl, ?_⟩
  exact below_set3 (below_drewN ((Below.refl _ _).alloc (Nat.le_refl _) _) _)

set_option maxRecDepth 100000 in
set_option maxHeartbeats 400000 in
theorem wide18_7 (s : ByteArray) (w : World) (x y : Int) (h : 4 ≤ s.size) (hs : s.size ≤ 1048576) (hx : (pairN s.data.toList : Int) = x) (hy : (pairN (s.data.toList.drop 2) : Int) = y) (g : 55296 ≤ x) (g2 : x < 56320) (y1 : 56320 ≤ y) (y2 : y < 57344) :
    Calls Tryd.prog 53 #[.string s] w fun e w' => e = .returned (.agg #[.int .i32 (65536 + (x - 55296) * 1024 + (y - 56320)), .int .i64 4, .bool false]) ∧ Below w.heap.size w w' := by
  have p26 := fun w => pair26 s w (by omega)
  rw [hx] at p26
  have H26 := Lib.hid p26
  clear p26
  have q26 := fun w => pair26 (s.extract 2 s.size) w (by rw [size_extract2]; omega)
  rw [extract_toList, hy] at q26
  have G26 := Lib.hid q26
  clear q26
  have g3 : x < 57344 := by omega
  have h4i : (4 : Int) ≤ (s.size : Int) := by omega
  clear hx hy
  go_enter Tryd.func53, Tryd.ntmps53
  go_wp2_with (go_at_call 78; refine (H26.out _).mono ?_; rintro e w' ⟨rfl, n, rfl⟩; refine Hid.out ?_)
  refine Lib.hid ?_
  go_wp2_with (go_at_call 78; refine (G26.out _).mono ?_; rintro e w' ⟨rfl, n2, rfl⟩; refine Hid.out ?_)
  refine Lib.hid ?_
  go_wp2
  refine bodyPost_ret (v := .agg #[.int .i32 (65536 + (x - 55296) * 1024 + (y - 56320)), .int .i64 4, .bool false]) (by simp [results, Tryd.results53, go_sem]) rfl ⟨rfl, ?_⟩
  exact below_set3 (below_drewN ((Below.refl _ _).alloc (Nat.le_refl _) _) _)

theorem agg3 {a a' b b' : Int} {c c' : Bool} (h1 : a = a') (h2 : b = b') (h3 : c = c') : Ending.returned (.agg #[.int .i32 a, .int .i64 b, .bool c]) = Ending.returned (.agg #[.int .i32 a', .int .i64 b', .bool c']) := by rw [h1, h2, h3]

theorem wide18 (s : ByteArray) (w : World) (h : 2 ≤ s.size) (hs : s.size ≤ 1048576) :
    Calls Tryd.prog 53 #[.string s] w fun e w' => e = .returned (.agg #[.int .i32 (firstW s.data.toList).1, .int .i64 (firstW s.data.toList).2.1, .bool (firstW s.data.toList).2.2]) ∧ Below w.heap.size w w' := by
  have hl : s.data.toList.length = s.size := by simp
  by_cases c1 : pairN s.data.toList < 55296
  · have hf : firstW s.data.toList = (pairN s.data.toList, 2, false) := by unfold firstW; rw [if_pos (Or.inl c1)]
    rw [hf]
    exact wide18_1 s w _ h hs rfl (by omega)
  by_cases c2 : 57344 ≤ pairN s.data.toList
  · have hf : firstW s.data.toList = (pairN s.data.toList, 2, false) := by unfold firstW; rw [if_pos (Or.inr c2)]
    rw [hf]
    exact wide18_2 s w _ h hs rfl (by omega)
  by_cases c3 : 56320 ≤ pairN s.data.toList
  · have hf : firstW s.data.toList = (65533, 2, true) := by unfold firstW; rw [if_neg (by omega), if_neg (by omega)]
    rw [hf]
    exact wide18_3 s w _ h hs rfl (by omega) (by omega)
  by_cases c4 : s.size < 4
  · have hf : firstW s.data.toList = (65533, 2, true) := by unfold firstW; rw [if_neg (by omega), if_neg (by omega)]
    rw [hf]
    exact wide18_4 s w _ h hs rfl (by omega) (by omega) c4
  by_cases c5 : pairN (s.data.toList.drop 2) < 56320
  · have hf : firstW s.data.toList = (65533, 2, true) := by unfold firstW; rw [if_neg (by omega), if_neg (by omega)]
    rw [hf]
    exact wide18_5 s w _ _ (by omega) hs rfl rfl (by omega) (by omega) (by omega)
  by_cases c6 : 57344 ≤ pairN (s.data.toList.drop 2)
  · have hf : firstW s.data.toList = (65533, 2, true) := by unfold firstW; rw [if_neg (by omega), if_neg (by omega)]
    rw [hf]
    exact wide18_6 s w _ _ (by omega) hs rfl rfl (by omega) (by omega) (by omega)
  have hf : firstW s.data.toList = (65536 + 1024 * (pairN s.data.toList - 55296) + (pairN (s.data.toList.drop 2) - 56320), 4, false) := by
    unfold firstW; rw [if_neg (by omega), if_pos (by omega)]
  rw [hf]
  refine (wide18_7 s w _ _ (by omega) hs rfl rfl (by omega) (by omega) (by omega) (by omega)).mono ?_
  rintro e w' ⟨rfl, hb⟩
  exact ⟨agg3 (by omega) rfl rfl, hb⟩
end Go.Proofs.YteibjmlimcpaoaaDoor.T
