/-
  What the small functions answer, for every argument in the range that they are called at: text.known, text.Harmful, visorref.harmful, visorkeep.harmful, text.pair, text.narrow, text.wide, (text.character).marks.
  What text.wide answers, for every string of at least two bytes: the first character of two bytes or four.
  strconv.FormatInt at the base 16, for every number from 0 to 65535: it answers the number's hexadecimal digits, and nothing that lay in memory turns, where the library's table deBruijn64tab holds 4 at the place 15.
  The library's own contracts for strings.Builder's Len and String, laid at this program (each a theorem of the kit, taken over by one application), and copyCheck and WriteString walked over this program's own text: what they answer and what they leave in memory, for a builder that the call itself made.
  What text.show answers, with text.narrow and with text.wide, for every string of at most 1048576 bytes and every limit: the text and its marks; nothing that lay in memory turns.
  What text.show answers with text.wide, and what text.Tell and visor.Text answer, for every platform, encoding, string of at most 1048576 bytes and limit; nothing that lay in memory turns.
-/
import Derived.Test.YteibjmlimcpaoaaGreatDoorProg
import Derived.Test.YteibjmlimcpaoaaGreatDoorPa
import Derived.WalkKit
import Derived.BigCall
import Derived.Deep.QuietTactic
import Derived.BigQuiet
import Derived.Lib.Hide
import Derived.Shelf.Strings.Builder1
import Derived.Shelf.Strings.BuilderF
import Derived.Shelf.Strings.BuilderK
set_option linter.unusedVariables false
namespace Go.Proofs.YteibjmlimcpaoaaGreatDoor.T
open Go.RowKit

theorem ret_bool {a b : Bool} (h : a = b) : Ending.returned (.bool a) = .returned (.bool b) := by rw [h]

set_option maxHeartbeats 400000 in
theorem harm27 (c : Int) (w : World) :
    Calls Tryz.prog 153 #[.int .i32 c] w fun e w' => e = .returned (.bool (harmB c)) ∧ w' = w := by
  go_enter Tryz.func153, Tryz.ntmps153
  go_wp2
  all_goals go_ret
  all_goals refine ⟨ret_bool ?_, rfl⟩
  all_goals try simp only [beq_iff_eq, beq_eq_false_iff_ne, ne_eq] at *
  all_goals symm
  all_goals simp only [harmB, decide_eq_true_eq, decide_eq_false_iff_not]
  all_goals omega

set_option maxHeartbeats 400000 in
theorem harm13 (c : Int) (w : World) :
    Calls Tryz.prog 87 #[.int .i64 c] w fun e w' => e = .returned (.bool (harmB c)) ∧ w' = w := by
  go_enter Tryz.func87, Tryz.ntmps87
  go_wp2
  all_goals go_ret
  all_goals refine ⟨ret_bool ?_, rfl⟩
  all_goals rw [Bool.eq_iff_iff]
  all_goals simp only [harmB, Bool.or_eq_true, beq_iff_eq, decide_eq_true_eq, true_iff]
  all_goals omega

set_option maxHeartbeats 400000 in
theorem known15 (p q : Int) (w : World) :
    Calls Tryz.prog 154 #[.int .i64 p, .int .i64 q] w fun e w' => e = .returned (.bool (twoB p q || oneB p q)) ∧ w' = w := by
  go_enter Tryz.func154, Tryz.ntmps154
  go_wp2
  all_goals go_ret
  all_goals refine ⟨ret_bool ?_, rfl⟩
  all_goals try simp only [beq_iff_eq, beq_eq_false_iff_ne, ne_eq] at *
  all_goals rw [Bool.eq_iff_iff]
  all_goals simp only [twoB, oneB, Bool.or_eq_true, beq_iff_eq, decide_eq_true_eq, true_iff, Bool.false_eq_true, false_iff]
  all_goals omega

theorem getD_byte (s : ByteArray) (i : Nat) (h : i < s.size) : s.data.toList.getD i 0 = s[i] := by
  have h' : i < s.data.toList.length := by simpa using h
  rw [List.getD_eq_getElem?_getD, List.getElem?_eq_getElem h', Option.getD_some]
  rfl

set_option maxRecDepth 100000 in
set_option maxHeartbeats 400000 in
theorem narrow17 (s : ByteArray) (w : World) (h : 0 < s.size) :
    Calls Tryz.prog 156 #[.string s] w fun e w' => e = .returned (.agg #[.int .i32 (firstN s.data.toList).1, .int .i64 (firstN s.data.toList).2.1, .bool (firstN s.data.toList).2.2]) ∧ Below w.heap.size w w' := by
  have hd : s.data.toList.getD 0 0 = s[0] := getD_byte s 0 h
  by_cases hb : s[0].toNat < 128
  · have hf : firstN s.data.toList = (s[0].toNat, 1, false) := by unfold firstN; rw [hd, if_pos hb]
    rw [hf]
    clear hf hd
    go_enter Tryz.func156, Tryz.ntmps156
    go_wp2
    exact bodyPost_ret (v := .agg #[.int .i32 s[0].toNat, .int .i64 1, .bool false]) (by simp [results, Tryz.results156, go_sem]) rfl ⟨rfl, (Below.refl _ _).alloc (Nat.le_refl _) _⟩
  · have hf : firstN s.data.toList = (65533, 1, true) := by unfold firstN; rw [hd, if_neg hb]
    rw [hf]
    clear hf hd
    have hb' : 128 ≤ s[0].toNat := by omega
    go_enter Tryz.func156, Tryz.ntmps156
    go_wp2
    exact bodyPost_ret (v := .agg #[.int .i32 65533, .int .i64 1, .bool true]) (by simp [results, Tryz.results156, go_sem]) rfl ⟨rfl, (Below.refl _ _).alloc (Nat.le_refl _) _⟩

theorem or8 (x y : Int) (h1 : 0 ≤ x) (h2 : x % 256 = 0) (h3 : x < 2147483648) (h4 : 0 ≤ y) (h5 : y < 256) : bits .or .i32 x y = x + y :=
  bits_join .i32 31 (by decide) wraps_i32 8 x y h1 h2 h3 h4 h5 (by omega)

set_option maxHeartbeats 400000 in
theorem pair26 (s : ByteArray) (w : World) (h : 2 ≤ s.size) :
    Calls Tryz.prog 169 #[.string s] w fun e w' => e = .returned (.int .i32 (pairN s.data.toList)) ∧ ∃ n, w' = w.drewN n := by
  have h0 : 0 < s.size := by omega
  have h1 : 1 < s.size := by omega
  have h1' : (1 : Int) < (s.size : Int) := by omega
  have b0 : s[0].toNat < 256 := s[0].toNat_lt
  have b1 : s[1].toNat < 256 := s[1].toNat_lt
  go_enter Tryz.func169, Tryz.ntmps169
  go_wp2_with fail
  go_quiet (fail)
  go_wp2
  go_ret
  refine ⟨?_, nq, rfl⟩
  show Ending.returned (.int .i32 (bits BinOp.or IntKind.i32 (↑s[0].toNat * 256) ↑s[1].toNat)) = _
  rw [or8 _ _ (by omega) (by omega) (by omega) (by omega) (by omega), pairN, getD_byte s 0 h0, getD_byte s 1 h1]
  congr 2
  omega

set_option maxHeartbeats 400000 in
theorem marks25 (c n : Int) (b : Bool) (w : World) :
    Calls Tryz.prog 168 #[.agg #[.int .i32 c, .int .i64 n, .bool b]] w fun e w' => e = .returned (.int .i64 (markN b (harmB c) false)) ∧ Below w.heap.size w w' := by
  cases b <;> cases hh : harmB c
  all_goals go_enter Tryz.func168, Tryz.ntmps168
  all_goals go_wp2_with (go_at_call 153; refine (harm27 _ _).mono ?_; rintro e w' ⟨rfl, rfl⟩)
  all_goals go_ret
  all_goals exact ⟨rfl, (Below.refl _ _).alloc (Nat.le_refl _) _⟩
end Go.Proofs.YteibjmlimcpaoaaGreatDoor.T

set_option linter.unusedVariables false
namespace Go.Proofs.YteibjmlimcpaoaaGreatDoor.T
open Go.RowKit

theorem below_drewN {B : Nat} {a w : World} (h : Below B a w) (n : Nat) : Below B a (w.drewN n) := ⟨h.os, h.tape, h.output, h.size, h.block⟩

theorem below_set3 {B : Nat} {a v : World} {x y z : Value} (h : Below B a v) : Below B a (((v.setCell ⟨B, 0, none⟩ x).setCell ⟨B, 1, none⟩ y).setCell ⟨B, 2, none⟩ z) :=
  ((h.setCell (p := ⟨B, 0, none⟩) (Nat.le_refl _) x).setCell (p := ⟨B, 1, none⟩) (Nat.le_refl _) y).setCell (p := ⟨B, 2, none⟩) (Nat.le_refl _) z

theorem pairN_lt (l : List UInt8) : pairN l < 65536 := by
  have h0 := (l.getD 0 0).toNat_lt
  have h1 := (l.getD 1 0).toNat_lt
  unfold pairN
  omega

theorem extract_toList (s : ByteArray) (k : Nat) : (s.extract k s.size).data.toList = s.data.toList.drop k := by
  have h : s.size = s.data.toList.length := by simp
  simp only [ByteArray.data_extract, Array.toList_extract, List.extract_eq_take_drop]
  rw [h, List.take_of_length_le (by simp)]
theorem size_extract2 (s : ByteArray) : (s.extract 2 s.size).size = s.size - 2 := by
  simp [ByteArray.size_extract]

set_option maxRecDepth 100000 in
set_option maxHeartbeats 400000 in
theorem wide18_1 (s : ByteArray) (w : World) (x : Int) (h : 2 ≤ s.size) (hs : s.size ≤ 1048576) (hx : (pairN s.data.toList : Int) = x) (g : x < 55296) :
    Calls Tryz.prog 157 #[.string s] w fun e w' => e = .returned (.agg #[.int .i32 x, .int .i64 2, .bool false]) ∧ Below w.heap.size w w' := by
  have p26 := fun w => pair26 s w (by omega)
  rw [hx] at p26
  have H26 := Lib.hid p26
  clear p26
  clear hx
  go_enter Tryz.func157, Tryz.ntmps157
  go_wp2_with (go_at_call 169; refine (H26.out _).mono ?_; rintro e w' ⟨rfl, n, rfl⟩; refine Hid.out ?_)
  refine Lib.hid ?_
  go_wp2
  refine bodyPost_ret (v := .agg #[.int .i32 x, .int .i64 2, .bool false]) (by simp [results, Tryz.results157, go_sem]) rfl ⟨rfl, ?_⟩
  exact below_set3 (below_drewN ((Below.refl _ _).alloc (Nat.le_refl _) _) _)

set_option maxRecDepth 100000 in
set_option maxHeartbeats 400000 in
theorem wide18_2 (s : ByteArray) (w : World) (x : Int) (h : 2 ≤ s.size) (hs : s.size ≤ 1048576) (hx : (pairN s.data.toList : Int) = x) (g : 57344 ≤ x) :
    Calls Tryz.prog 157 #[.string s] w fun e w' => e = .returned (.agg #[.int .i32 x, .int .i64 2, .bool false]) ∧ Below w.heap.size w w' := by
  have p26 := fun w => pair26 s w (by omega)
  rw [hx] at p26
  have H26 := Lib.hid p26
  clear p26
  have g1 : ¬ x < 55296 := by omega
  clear hx
  go_enter Tryz.func157, Tryz.ntmps157
  go_wp2_with (go_at_call 169; refine (H26.out _).mono ?_; rintro e w' ⟨rfl, n, rfl⟩; refine Hid.out ?_)
  refine Lib.hid ?_
  go_wp2
  refine bodyPost_ret (v := .agg #[.int .i32 x, .int .i64 2, .bool false]) (by simp [results, Tryz.results157, go_sem]) rfl ⟨rfl, ?_⟩
  exact below_set3 (below_drewN ((Below.refl _ _).alloc (Nat.le_refl _) _) _)

set_option maxRecDepth 100000 in
set_option maxHeartbeats 400000 in
theorem wide18_3 (s : ByteArray) (w : World) (x : Int) (h : 2 ≤ s.size) (hs : s.size ≤ 1048576) (hx : (pairN s.data.toList : Int) = x) (g : 56320 ≤ x) (g2 : x < 57344) :
    Calls Tryz.prog 157 #[.string s] w fun e w' => e = .returned (.agg #[.int .i32 65533, .int .i64 2, .bool true]) ∧ Below w.heap.size w w' := by
  have p26 := fun w => pair26 s w (by omega)
  rw [hx] at p26
  have H26 := Lib.hid p26
  clear p26
  have g1 : ¬ x < 55296 := by omega
  clear hx
  go_enter Tryz.func157, Tryz.ntmps157
  go_wp2_with (go_at_call 169; refine (H26.out _).mono ?_; rintro e w' ⟨rfl, n, rfl⟩; refine Hid.out ?_)
  refine Lib.hid ?_
  go_wp2
  refine bodyPost_ret (v := .agg #[.int .i32 65533, .int .i64 2, .bool true]) (by simp [results, Tryz.results157, go_sem]) rfl ⟨rfl, ?_⟩
  exact below_set3 (below_drewN ((Below.refl _ _).alloc (Nat.le_refl _) _) _)

set_option maxRecDepth 100000 in
set_option maxHeartbeats 400000 in
theorem wide18_4 (s : ByteArray) (w : World) (x : Int) (h : 2 ≤ s.size) (hs : s.size ≤ 1048576) (hx : (pairN s.data.toList : Int) = x) (g : 55296 ≤ x) (g2 : x < 56320) (h4 : s.size < 4) :
    Calls Tryz.prog 157 #[.string s] w fun e w' => e = .returned (.agg #[.int .i32 65533, .int .i64 2, .bool true]) ∧ Below w.heap.size w w' := by
  have p26 := fun w => pair26 s w (by omega)
  rw [hx] at p26
  have H26 := Lib.hid p26
  clear p26
  have g3 : x < 57344 := by omega
  have h4i : (s.size : Int) < 4 := by omega
  clear hx
  go_enter Tryz.func157, Tryz.ntmps157
  go_wp2_with (go_at_call 169; refine (H26.out _).mono ?_; rintro e w' ⟨rfl, n, rfl⟩; refine Hid.out ?_)
  refine Lib.hid ?_
  go_wp2
  refine bodyPost_ret (v := .agg #[.int .i32 65533, .int .i64 2, .bool true]) (by simp [results, Tryz.results157, go_sem]) rfl ⟨rfl, ?_⟩
  exact below_set3 (below_drewN ((Below.refl _ _).alloc (Nat.le_refl _) _) _)

set_option maxRecDepth 100000 in
set_option maxHeartbeats 400000 in
theorem wide18_5 (s : ByteArray) (w : World) (x y : Int) (h : 4 ≤ s.size) (hs : s.size ≤ 1048576) (hx : (pairN s.data.toList : Int) = x) (hy : (pairN (s.data.toList.drop 2) : Int) = y) (g : 55296 ≤ x) (g2 : x < 56320) (y1 : y < 56320) :
    Calls Tryz.prog 157 #[.string s] w fun e w' => e = .returned (.agg #[.int .i32 65533, .int .i64 2, .bool true]) ∧ Below w.heap.size w w' := by
  have p26 := fun w => pair26 s w (by omega)
  rw [hx] at p26
  have H26 := Lib.hid p26
  clear p26
  have q26 := fun w => pair26 (s.extract 2 s.size) w (by rw [size_extract2]; omega)
  rw [extract_toList, hy] at q26
  have G26 := Lib.hid q26
  clear q26
  have g3 : x < 57344 := by omega
  have h4i : (4 : Int) ≤ (s.size : Int) := by omega
  clear hx hy
  go_enter Tryz.func157, Tryz.ntmps157
  go_wp2_with (go_at_call 169; refine (H26.out _).mono ?_; rintro e w' ⟨rfl, n, rfl⟩; refine Hid.out ?_)
  refine Lib.hid ?_
  go_wp2_with (go_at_call 169; refine (G26.out _).mono ?_; rintro e w' ⟨rfl, n2, rfl⟩; refine Hid.out ?_)
  refine Lib.hid ?_
  go_wp2
  refine bodyPost_ret (v := .agg #[.int .i32 65533, .int .i64 2, .bool true]) (by simp [results, Tryz.results157, go_sem]) rfl ⟨rfl, ?_⟩
  exact below_set3 (below_drewN ((Below.refl _ _).alloc (Nat.le_refl _) _) _)

set_option maxRecDepth 100000 in
set_option maxHeartbeats 400000 in
theorem wide18_6 (s : ByteArray) (w : World) (x y : Int) (h : 4 ≤ s.size) (hs : s.size ≤ 1048576) (hx : (pairN s.data.toList : Int) = x) (hy : (pairN (s.data.toList.drop 2) : Int) = y) (g : 55296 ≤ x) (g2 : x < 56320) (y1 : 57344 ≤ y) :
    Calls Tryz.prog 157 #[.string s] w fun e w' => e = .returned (.agg #[.int .i32 65533, .int .i64 2, .bool true]) ∧ Below w.heap.size w w' := by
  have p26 := fun w => pair26 s w (by omega)
  rw [hx] at p26
  have H26 := Lib.hid p26
  clear p26
  have q26 := fun w => pair26 (s.extract 2 s.size) w (by rw [size_extract2]; omega)
  rw [extract_toList, hy] at q26
  have G26 := Lib.hid q26
  clear q26
  have g3 : x < 57344 := by omega
  have h4i : (4 : Int) ≤ (s.size : Int) := by omega
  have y2 : 56320 ≤ y := by omega
  clear hx hy
  go_enter Tryz.func157, Tryz.ntmps157
  go_wp2_with (go_at_call 169; refine (H26.out _).mono ?_; rintro e w' ⟨rfl, n, rfl⟩; refine Hid.out ?_)
  refine Lib.hid ?_
  go_wp2_with (go_at_call 169; refine (G26.out _).mono ?_; rintro e w' ⟨rfl, n2, rfl⟩; refine Hid.out ?_)
  refine Lib.hid ?_
  go_wp2
  refine bodyPost_ret (v := .agg #[.int .i32 65533, .int .i64 2, .bool true]) (by simp [results, Tryz.results157, go_sem]) rfl ⟨rfl, ?_⟩
  exact below_set3 (below_drewN ((Below.refl _ _).alloc (Nat.le_refl _) _) _)

set_option maxRecDepth 100000 in
set_option maxHeartbeats 400000 in
theorem wide18_7 (s : ByteArray) (w : World) (x y : Int) (h : 4 ≤ s.size) (hs : s.size ≤ 1048576) (hx : (pairN s.data.toList : Int) = x) (hy : (pairN (s.data.toList.drop 2) : Int) = y) (g : 55296 ≤ x) (g2 : x < 56320) (y1 : 56320 ≤ y) (y2 : y < 57344) :
    Calls Tryz.prog 157 #[.string s] w fun e w' => e = .returned (.agg #[.int .i32 (65536 + (x - 55296) * 1024 + (y - 56320)), .int .i64 4, .bool false]) ∧ Below w.heap.size w w' := by
  have p26 := fun w => pair26 s w (by omega)
  rw [hx] at p26
  have H26 := Lib.hid p26
  clear p26
  have q26 := fun w => pair26 (s.extract 2 s.size) w (by rw [size_extract2]; omega)
  rw [extract_toList, hy] at q26
  have G26 := Lib.hid q26
  clear q26
  have g3 : x < 57344 := by omega
  have h4i : (4 : Int) ≤ (s.size : Int) := by omega
  clear hx hy
  go_enter Tryz.func157, Tryz.ntmps157
  go_wp2_with (go_at_call 169; refine (H26.out _).mono ?_; rintro e w' ⟨rfl, n, rfl⟩; refine Hid.out ?_)
  refine Lib.hid ?_
  go_wp2_with (go_at_call 169; refine (G26.out _).mono ?_; rintro e w' ⟨rfl, n2, rfl⟩; refine Hid.out ?_)
  refine Lib.hid ?_
  go_wp2
  refine bodyPost_ret (v := .agg #[.int .i32 (65536 + (x - 55296) * 1024 + (y - 56320)), .int .i64 4, .bool false]) (by simp [results, Tryz.results157, go_sem]) rfl ⟨rfl, ?_⟩
  exact below_set3 (below_drewN ((Below.refl _ _).alloc (Nat.le_refl _) _) _)

theorem agg3 {a a' b b' : Int} {c c' : Bool} (h1 : a = a') (h2 : b = b') (h3 : c = c') : Ending.returned (.agg #[.int .i32 a, .int .i64 b, .bool c]) = Ending.returned (.agg #[.int .i32 a', .int .i64 b', .bool c']) := by rw [h1, h2, h3]

theorem wide18 (s : ByteArray) (w : World) (h : 2 ≤ s.size) (hs : s.size ≤ 1048576) :
    Calls Tryz.prog 157 #[.string s] w fun e w' => e = .returned (.agg #[.int .i32 (firstW s.data.toList).1, .int .i64 (firstW s.data.toList).2.1, .bool (firstW s.data.toList).2.2]) ∧ Below w.heap.size w w' := by
  have hl : s.data.toList.length = s.size := by simp
  by_cases c1 : pairN s.data.toList < 55296
  · have hf : firstW s.data.toList = (pairN s.data.toList, 2, false) := by unfold firstW; rw [if_pos (Or.inl c1)]
    rw [hf]
    exact wide18_1 s w _ h hs rfl (by omega)
  by_cases c2 : 57344 ≤ pairN s.data.toList
  · have hf : firstW s.data.toList = (pairN s.data.toList, 2, false) := by unfold firstW; rw [if_pos (Or.inr c2)]
    rw [hf]
    exact wide18_2 s w _ h hs rfl (by omega)
  by_cases c3 : 56320 ≤ pairN s.data.toList
  · have hf : firstW s.data.toList = (65533, 2, true) := by unfold firstW; rw [if_neg (by omega), if_neg (by omega)]
    rw [hf]
    exact wide18_3 s w _ h hs rfl (by omega) (by omega)
  by_cases c4 : s.size < 4
  · have hf : firstW s.data.toList = (65533, 2, true) := by unfold firstW; rw [if_neg (by omega), if_neg (by omega)]
    rw [hf]
    exact wide18_4 s w _ h hs rfl (by omega) (by omega) c4
  by_cases c5 : pairN (s.data.toList.drop 2) < 56320
  · have hf : firstW s.data.toList = (65533, 2, true) := by unfold firstW; rw [if_neg (by omega), if_neg (by omega)]
    rw [hf]
    exact wide18_5 s w _ _ (by omega) hs rfl rfl (by omega) (by omega) (by omega)
  by_cases c6 : 57344 ≤ pairN (s.data.toList.drop 2)
  · have hf : firstW s.data.toList = (65533, 2, true) := by unfold firstW; rw [if_neg (by omega), if_neg (by omega)]
    rw [hf]
    exact wide18_6 s w _ _ (by omega) hs rfl rfl (by omega) (by omega) (by omega)
  have hf : firstW s.data.toList = (65536 + 1024 * (pairN s.data.toList - 55296) + (pairN (s.data.toList.drop 2) - 56320), 4, false) := by
    unfold firstW; rw [if_neg (by omega), if_pos (by omega)]
  rw [hf]
  refine (wide18_7 s w _ _ (by omega) hs rfl rfl (by omega) (by omega) (by omega) (by omega)).mono ?_
  rintro e w' ⟨rfl, hb⟩
  exact ⟨agg3 (by omega) rfl rfl, hb⟩
end Go.Proofs.YteibjmlimcpaoaaGreatDoor.T

set_option linter.unusedVariables false
namespace Go.Proofs.YteibjmlimcpaoaaGreatDoor.T
open Go.RowKit

/-- the one number of the library's table that is read -/
def Tab (w : World) : Prop := w.cell? ⟨7, 15, none⟩ = some (.int .u8 4)

theorem Tab.lt {w : World} (h : Tab w) : 7 < w.heap.size := by
  rcases Nat.lt_or_ge 7 w.heap.size with h' | h'
  · exact h'
  · simp [Tab, World.cell?, Array.getElem?_eq_none h'] at h

theorem Tab.below {B : Nat} {w w' : World} (h : Tab w) (hb : Below B w w') (hB : 7 < B) : Tab w' := by
  unfold Tab
  rw [hb.cell (p := ⟨7, 15, none⟩) hB]
  exact h

theorem Tab.on {w w' : World} (h : Tab w) (hb : Below w.heap.size w w') : Tab w' := h.below hb h.lt

theorem tab_alloc {w : World} {o : Obj} (ht : Tab w) : (w.alloc o).cell? ⟨7, 15, none⟩ = some (.int .u8 4) := by
  have h := ht.lt
  rw [World.cell?_alloc_old]
  · exact ht
  · show 7 ≠ w.heap.size
    omega

set_option maxRecDepth 100000 in
set_option maxHeartbeats 400000 in
theorem tz42 (w : World) (ht : w.cell? ⟨7, 15, none⟩ = some (.int .u8 4)) :
    Calls Tryz.prog 184 #[.int .u64 16] w fun e w' => e = .returned (.int .i64 4) ∧ w' = w := by
  have e15 : IntKind.u64.wrap (bits BinOp.and IntKind.u64 16 (IntKind.u64.wrap (-16)) * 285870213051353865) / 288230376151711744 = 15 := by decide +kernel
  go_enter Tryz.func184, Tryz.ntmps184
  go_wp2
  go_ret
  exact ⟨rfl, rfl⟩

set_option maxRecDepth 100000 in
set_option maxHeartbeats 400000 in
theorem tz40 (w : World) (ht : w.cell? ⟨7, 15, none⟩ = some (.int .u8 4)) :
    Calls Tryz.prog 182 #[.int .u64 16] w fun e w' => e = .returned (.int .i64 4) ∧ w' = w := by
  go_enter Tryz.func182, Tryz.ntmps182
  go_wp2_with (go_at_call 184; refine (tz42 _ ht).mono ?_; rintro e w' ⟨rfl, rfl⟩)
  go_ret
  exact ⟨rfl, rfl⟩

set_option maxRecDepth 100000 in
set_option maxHeartbeats 400000 in
theorem pow39 (w : World) :
    Calls Tryz.prog 181 #[.int .i64 16] w fun e w' => e = .returned (.bool true) ∧ w' = w := by
  go_enter Tryz.func181, Tryz.ntmps181
  go_wp2
  go_ret
  exact ⟨rfl, rfl⟩

def zeros65 : Array Value := ⟨List.replicate 65 (.int .u8 0)⟩
theorem zeros65_size : zeros65.size = 65 := by simp [zeros65]
theorem zero68 (w : World) : (zeroValue 243).run Tryz.prog w = .ok (.agg zeros65) w := by kernel_rfl

theorem digits_at (k : Nat) (h : k < 16) (hk : k < (ByteArray.mk #[48, 49, 50, 51, 52, 53, 54, 55, 56, 57, 97, 98, 99, 100, 101, 102, 103, 104, 105, 106, 107, 108, 109, 110, 111, 112, 113, 114, 115, 116, 117, 118, 119, 120, 121, 122]).size) : (ByteArray.mk #[48, 49, 50, 51, 52, 53, 54, 55, 56, 57, 97, 98, 99, 100, 101, 102, 103, 104, 105, 106, 107, 108, 109, 110, 111, 112, 113, 114, 115, 116, 117, 118, 119, 120, 121, 122])[k] = dig k := by
  have : ∀ i : Fin 16, (ByteArray.mk #[48, 49, 50, 51, 52, 53, 54, 55, 56, 57, 97, 98, 99, 100, 101, 102, 103, 104, 105, 106, 107, 108, 109, 110, 111, 112, 113, 114, 115, 116, 117, 118, 119, 120, 121, 122])[i.val]'(Nat.lt_trans i.isLt (by decide)) = dig i.val := by decide
  exact this ⟨k, h⟩

theorem and15 (x : Int) (h₀ : 0 ≤ x) (h₁ : x < 65536) : bits .and .u64 x 15 = x % 16 := by
  have := u64_and x 15 h₀ (by omega) (by omega) (by omega)
  rw [this]
  have e : x.toNat &&& 15 = x.toNat % 16 := Nat.and_two_pow_sub_one_eq_mod x.toNat 4
  show ((x.toNat &&& 15 : Nat) : Int) = _
  rw [e]
  omega

theorem al68 : Tryz.prog.arrayLen 243 = 65 := by simp [Program.arrayLen, Tryz.underlying243]
theorem el68 : Tryz.prog.elem 243 = 5 := by simp [Program.elem, Tryz.underlying243]
theorem addr_add (b o j : Nat) : (⟨b, o, none⟩ : Addr).add j = ⟨b, o + j, none⟩ := by simp [Addr.add]

theorem arr_put {arr : Array Value} {t : List UInt8} {i : Nat} {d : UInt8} (h : ∀ j, (hj : j < t.length) → arr[i + j]? = some (.int .u8 (t[j].toNat : Int))) (h1 : 1 ≤ i) (h2 : i ≤ arr.size) :
    ∀ j, (hj : j < (d :: t).length) → (arr.setIfInBounds (i - 1) (.int .u8 (d.toNat : Int)))[i - 1 + j]? = some (.int .u8 ((d :: t)[j].toNat : Int)) := by
  intro j hj
  cases j with
  | zero =>
    rw [Nat.add_zero, Array.getElem?_setIfInBounds_self_of_lt (by omega)]
    rfl
  | succ j =>
    have hj' : j < t.length := by simpa using hj
    have := h j hj'
    rw [show i - 1 + (j + 1) = i + j by omega, Array.getElem?_setIfInBounds_ne (by omega), this]
    rfl

set_option maxRecDepth 100000 in
set_option maxHeartbeats 1000000 in
theorem bits35 (n : Nat) (w : World) (hn : n < 65536) (ht : Tab w) :
    Calls Tryz.prog 177 #[.slice none 0 0, .int .u64 n, .int .i64 16, .bool false, .bool false] w fun e w' => e = .returned (.tuple #[.slice none 0 0, .string ⟨(hexL n).toArray⟩]) ∧ Below w.heap.size w w' := by
  have hlt := ht.lt
  have hz := zero68
  go_enter Tryz.func177, Tryz.ntmps177
  go_wp2_with (first | (go_at_call 181; refine (pow39 _).mono ?_; rintro e w' ⟨rfl, rfl⟩) | (go_at_call 182; refine (tz40 _ (tab_alloc ht)).mono ?_; rintro e w' ⟨rfl, rfl⟩))
  clear hz
  go_loopw [1, 13] (fun us is wr => ∃ (f u i : Nat) (t : List UInt8) (arr : Array Value), us = .int .u64 u ∧ is = .int .i64 i ∧ wr = w.alloc (.cells arr 243) ∧ arr.size = 65 ∧ i + t.length = 65 ∧ t.length + f = 3 ∧ u < 16 ^ (f + 1) ∧ Hid (hexT f u (dig (u % 16) :: t) = hexL n) ∧ Hid (∀ j, (hj : j < t.length) → arr[i + j]? = some (.int .u8 (t[j].toNat : Int)))) (fun us _ _ => (intOf us).toNat)
  case atStart =>
    exact ⟨3, n, 65, [], zeros65, rfl, rfl, rfl, zeros65_size, rfl, rfl, hn, rfl, fun j hj => by cases hj⟩
  case round =>
    obtain ⟨f, u, i, t, arr, rfl, rfl, rfl, hsz, hi, hf, hu, H, HA⟩ := hrel
    have hu2 : u < 65536 := by
      have : 16 ^ (f + 1) ≤ 16 ^ 4 := Nat.pow_le_pow_right (by omega) (by omega)
      omega
    by_cases hge : 16 ≤ u
    · have hi1 : 1 ≤ i := by omega
      have ha15 : bits .and .u64 (u : Int) 15 = ((u % 16 : Nat) : Int) := by rw [and15 _ (by omega) (by omega)]; omega
      have hm : u % 16 < 16 := by omega
      have hm36 : (u % 16 : Int) < 36 := by omega
      obtain ⟨v, hv⟩ : ∃ v, arr[i - 1]? = some v := ⟨_, Array.getElem?_eq_getElem (by omega)⟩
      obtain ⟨g, rfl⟩ : ∃ g, f = g + 1 := ⟨f - 1, by
        rcases f with _ | f
        · simp at hu; omega
        · rfl⟩
      go_wp2
      rw [digits_at (u % 16) hm]
      refine ⟨⟨g, u / 16, i - 1, dig (u % 16) :: t, _, by go_num, by go_num, rfl, by simpa using hsz, by simp; omega, by simp; omega, ?_, ?_, ?_⟩, by simp [intOf]; omega⟩
      · rw [Nat.pow_succ] at hu
        omega
      · have h1 := H.out
        rw [hexT, if_neg (by omega)] at h1
        exact h1
      · intro j hj
        exact arr_put HA.out (by omega) (by omega) j hj
    · have hi1 : 1 ≤ i := by omega
      obtain ⟨m, rfl⟩ : ∃ m, i = m + 1 := ⟨i - 1, by omega⟩
      obtain ⟨v, hv⟩ : ∃ v, arr[m]? = some v := ⟨_, Array.getElem?_eq_getElem (by omega)⟩
      have hm36 : (u : Int) < 36 := by omega
      have hlt16 : u < 16 := by omega
      go_wp2
      rw [digits_at u hlt16]
      have h1 := H.out
      have h2 : hexT f u (dig (u % 16) :: t) = dig u :: t := by
        rw [show u % 16 = u by omega]
        cases f with
        | zero => rfl
        | succ f => rw [hexT, if_pos hlt16]
      rw [h2] at h1
      have hA2 := arr_put (d := dig u) HA.out (by omega) (by omega)
      simp only [Nat.add_sub_cancel] at hA2
      have hsl : ∀ W, (Instr.sliceAt 243 (.pointer (some ⟨w.heap.size, 0, none⟩)) (some (.int .i64 (m : Int))) none none).run Tryz.prog W = .ok (.slice (some ⟨w.heap.size, m, none⟩) (dig u :: t).length (dig u :: t).length) W := by
        intro W
        rw [run_sliceAt_array_l W 243 ⟨w.heap.size, 0, none⟩ (by simp [Program.arrayLen, Program.elem, Tryz.underlying243]) .i64 (m : Int) (by omega) (by rw [al68]; omega)]
        rw [al68, el68, Tryz.sizeOf5]
        simp only [Result.andThen, slicedAt]
        rw [if_neg (by simp; omega), addr_add]
        simp only [Int.toNat_natCast, Nat.mul_one, Nat.zero_add, List.length_cons]
        rw [show 65 - m = t.length + 1 by omega]
      have hcv : (convert 143 9 (.slice (some ⟨w.heap.size, m, none⟩) (dig u :: t).length (dig u :: t).length)).run Tryz.prog (w.alloc (.cells (arr.setIfInBounds m (.int .u8 ((dig u).toNat : Int))) 243)) = .ok (.string ⟨(dig u :: t).toArray⟩) (w.alloc (.cells (arr.setIfInBounds m (.int .u8 ((dig u).toNat : Int))) 243)) := by
        refine run_convert_bytes_back _ 143 9 5 ⟨w.heap.size, m, none⟩ _ (dig u :: t) Tryz.underlying143 Tryz.underlying5 Tryz.underlying9 ?_
        intro j hj
        rw [addr_add, World.cell?_alloc_new]
        exact hA2 j hj
      have H1 := Lib.hid h1
      have hlen : (dig u :: t).length ≤ 4 := by simp; omega
      clear h1 h2 hA2
      generalize arr.setIfInBounds m (.int .u8 ((dig u).toNat : Int)) = arr2 at *
      generalize dig u :: t = l at *
      rw [hsl]
      simp only [Result.andThen]
      rw [Oper.upon_value]
      go_wp2
      go_ret2
      refine ⟨?_, (Below.refl _ _).alloc (Nat.le_refl _) _⟩
      rw [← H1.out]
      rfl

set_option maxRecDepth 100000 in
set_option maxHeartbeats 1000000 in
theorem fmt30 (n : Nat) (w : World) (hn : n < 65536) (ht : Tab w) :
    Calls Tryz.prog 172 #[.int .i64 n, .int .i64 16] w fun e w' => e = .returned (.string ⟨(hexL n).toArray⟩) ∧ Below w.heap.size w w' := by
  go_enter Tryz.func172, Tryz.ntmps172
  go_wp2_with (go_at_call 177; refine (bits35 n _ hn ht).mono ?_; rintro e w' ⟨rfl, hb⟩)
  go_ret
  exact ⟨rfl, hb⟩

set_option maxRecDepth 100000 in
set_option maxHeartbeats 1000000 in
theorem fmt28 (n : Nat) (w : World) (hn : n < 65536) (ht : Tab w) :
    Calls Tryz.prog 170 #[.int .i64 n, .int .i64 16] w fun e w' => e = .returned (.string ⟨(hexL n).toArray⟩) ∧ Below w.heap.size w w' := by
  go_enter Tryz.func170, Tryz.ntmps170
  go_wp2_with (go_at_call 172; refine (fmt30 n _ hn ht).mono ?_; rintro e w' ⟨rfl, hb⟩)
  go_ret
  exact ⟨rfl, hb⟩

theorem ba_append (a b : Array UInt8) : (ByteArray.mk a ++ ByteArray.mk b) = ByteArray.mk (a ++ b) := by
  apply ByteArray.ext
  simp

theorem hexT_length : ∀ (f m : Nat) (s : List UInt8), (hexT f m s).length ≤ f + s.length
  | 0, m, s => by simp [hexT]
  | f + 1, m, s => by
    rw [hexT]
    split
    · omega
    · have := hexT_length f (m / 16) (dig (m / 16 % 16) :: s)
      simp at this
      omega
theorem hexL_length (n : Nat) : (hexL n).length ≤ 4 := by
  have := hexT_length 3 n [dig (n % 16)]
  exact this

/-- a number that is a character -/
def okC (n : Nat) : Prop := n ≤ 1114111 ∧ (n < 55296 ∨ 57343 < n)

theorem encode_eq (n : Nat) (h : okC n) : Utf8.encode (n : Int) = ⟨(utf8L n).toArray⟩ := by
  have hv : Utf8.valid (n : Int) = true := by
    obtain ⟨h1, h2⟩ := h
    simp only [Utf8.valid]
    simp
    omega
  unfold Utf8.encode utf8L
  simp only [hv, if_true, Int.toNat_natCast]
  split
  · rfl
  · split
    · rfl
    · split <;> rfl

theorem ret_str {a b : ByteArray} (h : a = b) : Ending.returned (.string a) = Ending.returned (.string b) := by rw [h]

set_option maxRecDepth 100000 in
set_option maxHeartbeats 1000000 in
theorem shown21_a (n : Nat) (w : World) (hn : n < 65536) (ht : Tab w) (h60 : ((n : Int) == 60) = false) (hh : harmB n = true) :
    Calls Tryz.prog 164 #[.int .i32 n] w fun e w' => e = .returned (.string ⟨(60 :: hexL n ++ [62]).toArray⟩) ∧ Below w.heap.size w w' := by
  have hl := hexL_length n
  have F := Lib.hid (fmt28 n w hn ht)
  generalize hexL n = l at *
  go_enter Tryz.func164, Tryz.ntmps164
  go_wp2_with (first | (go_at_call 153; refine (harm27 _ _).mono ?_; rintro e w' ⟨rfl, rfl⟩) | (go_at_call 170; refine F.out.mono ?_; rintro e w' ⟨rfl, hb⟩))
  go_ret
  refine ⟨ret_str ?_, hb⟩
  rw [ba_append, ba_append]
  simp

set_option maxRecDepth 100000 in
set_option maxHeartbeats 1000000 in
theorem shown21_b (w : World) (ht : Tab w) :
    Calls Tryz.prog 164 #[.int .i32 60] w fun e w' => e = .returned (.string ⟨(60 :: hexL 60 ++ [62]).toArray⟩) ∧ Below w.heap.size w w' := by
  have hl := hexL_length 60
  have F := Lib.hid (fmt28 60 w (by omega) ht)
  generalize hexL 60 = l at *
  go_enter Tryz.func164, Tryz.ntmps164
  go_wp2_with (go_at_call 170; refine F.out.mono ?_; rintro e w' ⟨rfl, hb⟩)
  go_ret
  refine ⟨ret_str ?_, hb⟩
  rw [ba_append, ba_append]
  simp

set_option maxRecDepth 100000 in
set_option maxHeartbeats 1000000 in
theorem shown21_c (n : Nat) (w : World) (hn : okC n) (h60 : ((n : Int) == 60) = false) (hh : harmB n = false) :
    Calls Tryz.prog 164 #[.int .i32 n] w fun e w' => e = .returned (.string ⟨(utf8L n).toArray⟩) ∧ Below w.heap.size w w' := by
  have he := Lib.hid (encode_eq n hn)
  go_enter Tryz.func164, Tryz.ntmps164
  go_wp2_with (go_at_call 153; refine (harm27 _ _).mono ?_; rintro e w' ⟨rfl, rfl⟩)
  go_ret
  exact ⟨ret_str he.out, Below.refl _ _⟩

theorem harm_small {n : Nat} (h : harmB (n : Int) = true) : n < 8298 := by
  simp only [harmB, decide_eq_true_eq] at h
  omega

theorem shown21 (n : Nat) (w : World) (hn : okC n) (ht : Tab w) :
    Calls Tryz.prog 164 #[.int .i32 n] w fun e w' => e = .returned (.string ⟨(shownL n).toArray⟩) ∧ Below w.heap.size w w' := by
  unfold shownL spelt
  rw [Int.toNat_natCast]
  cases hh : harmB (n : Int)
  · by_cases h60 : n = 60
    · subst h60
      exact shown21_b w ht
    · have h6 : ((n : Int) == 60) = false := by simp; omega
      rw [h6]
      exact shown21_c n w hn h6 hh
  · have := harm_small hh
    have h6 : ((n : Int) == 60) = false := by
      simp only [beq_eq_false_iff_ne]
      intro h
      rw [h] at hh
      exact absurd hh (by decide)
    exact shown21_a n w (by omega) ht h6 hh
end Go.Proofs.YteibjmlimcpaoaaGreatDoor.T

set_option linter.unusedVariables false
namespace Go.Proofs.YteibjmlimcpaoaaGreatDoor
open Go.Shelf Go.RowKit
def lays170_ren : Go.Shelf.Ren := ⟨fun | 170 => 165 | n => n, fun | 70 => 222 | 3 => 3 | 0 => 0 | 72 => 224 | 37 => 143 | 5 => 5 | n => n, fun | n => n⟩
theorem lays170 : Go.Proofs.Lays.n170 Tryz.prog lays170_ren := {
  mixed := by kernel_rfl
  f170 := Tryz.func165.trans (congrArg some (by kernel_rfl))
  t0 := Tryz.underlying0
  a0 := Tryz.isAgg0
  z0 := Tryz.sizeOf0
  v0 := Tryz.zeroValue0
  t3 := Tryz.underlying3
  a3 := Tryz.isAgg3
  z3 := Tryz.sizeOf3
  v3 := Tryz.zeroValue3
  t37 := Tryz.underlying143
  a37 := Tryz.isAgg143
  z37 := Tryz.sizeOf143
  v37 := Tryz.zeroValue143
  t70 := Tryz.underlying222
  a70 := Tryz.isAgg222
  z70 := Tryz.sizeOf222
  v70 := Tryz.zeroValue222
  t72 := Tryz.underlying224
  a72 := Tryz.isAgg224
  z72 := Tryz.sizeOf224
  v72 := Tryz.zeroValue224 }
def lays169_ren : Go.Shelf.Ren := ⟨fun | 169 => 166 | n => n, fun | 70 => 222 | 9 => 9 | 0 => 0 | 72 => 224 | 37 => 143 | 127 => 233 | 3 => 3 | 5 => 5 | n => n, fun | n => n⟩
theorem lays169 : Go.Proofs.Lays.n169 Tryz.prog lays169_ren := {
  mixed := by kernel_rfl
  f169 := Tryz.func166.trans (congrArg some (by kernel_rfl))
  t0 := Tryz.underlying0
  a0 := Tryz.isAgg0
  z0 := Tryz.sizeOf0
  v0 := Tryz.zeroValue0
  t3 := Tryz.underlying3
  a3 := Tryz.isAgg3
  z3 := Tryz.sizeOf3
  v3 := Tryz.zeroValue3
  t9 := Tryz.underlying9
  a9 := Tryz.isAgg9
  z9 := Tryz.sizeOf9
  v9 := Tryz.zeroValue9
  t37 := Tryz.underlying143
  a37 := Tryz.isAgg143
  z37 := Tryz.sizeOf143
  v37 := Tryz.zeroValue143
  t70 := Tryz.underlying222
  a70 := Tryz.isAgg222
  z70 := Tryz.sizeOf222
  v70 := Tryz.zeroValue222
  t72 := Tryz.underlying224
  a72 := Tryz.isAgg224
  z72 := Tryz.sizeOf224
  v72 := Tryz.zeroValue224
  t127 := Tryz.underlying233
  a127 := Tryz.isAgg233
  z127 := Tryz.sizeOf233
  v127 := Tryz.zeroValue233 }
theorem Builder_Extra_169 : Builder.Extra Tryz.prog lays169_ren := {
  sizeBuilder := by kernel_rfl
  liesBuilder := by kernel_rfl
  t5 := Tryz.underlying5
  a5 := Tryz.isAgg5
  z5 := Tryz.sizeOf5
  v5 := Tryz.zeroValue5
  infoByte := by kernel_rfl
  cellsByte := by kernel_rfl
  sizeByte := by kernel_rfl
  neB5 := by decide }

theorem bLen (B b : Nat) (bs : List Value) (w : World) (h : Lib.IsBuilderF 224 5 B b bs w) :
    Calls Tryz.prog 165 #[.pointer (some ⟨b, 0, none⟩)] w fun e w' => e = .returned (.int .i64 bs.length) ∧ w' = w := Any.Builder_Len_f lays170 B b bs w h
theorem bString (B b : Nat) (l : List UInt8) (w : World) (h : Lib.IsBuilderF 224 5 B b (Lib.byteCells l) w) (hBw : B ≤ w.heap.size) :
    Calls Tryz.prog 166 #[.pointer (some ⟨b, 0, none⟩)] w fun e w' => e = .returned (.string ⟨l.toArray⟩) ∧ (Lib.IsBuilderF 224 5 B b (Lib.byteCells l) w' ∧ Below B w w' ∧ Lib.OthersKept 5 (some b) w w') := Any.Builder_String_any_k lays169 Builder_Extra_169 B b l w h hBw

set_option maxHeartbeats 1000000 in
set_option maxRecDepth 100000 in
theorem bCheck_used (b : Nat) (w : World) (h0 : w.cell? ⟨b, 0, none⟩ = some (.pointer (some ⟨b, 0, none⟩))) :
    Calls Tryz.prog 171 #[.pointer (some ⟨b, 0, none⟩)] w fun e w' => e = .returned (.tuple #[]) ∧ w' = w := by
  obtain ⟨j, hj, _⟩ := Option.map_eq_some_iff.1 Builder_Extra_169.sizeBuilder
  go_enter Tryz.func171, Tryz.ntmps171
  go_wp2
  rw [Lib.run_neq_ptr_same w _ Tryz.underlying222 hj]
  go_wp2
  go_end0
  exact ⟨rfl, rfl⟩

set_option maxHeartbeats 1000000 in
set_option maxRecDepth 100000 in
theorem bCheck_fresh (b : Nat) (w : World) (h0 : w.cell? ⟨b, 0, none⟩ = some (.pointer none)) (hsh : w.shape? b = some (224, 2)) (hfz : w.frozen? ⟨b, 0, none⟩ = false) :
    Calls Tryz.prog 171 #[.pointer (some ⟨b, 0, none⟩)] w fun e w' => e = .returned (.tuple #[]) ∧ w' = w.setCell ⟨b, 0, none⟩ (.pointer (some ⟨b, 0, none⟩)) := by
  obtain ⟨j, hj, hjs⟩ := Option.map_eq_some_iff.1 Builder_Extra_169.sizeBuilder
  go_enter Tryz.func171, Tryz.ntmps171
  go_wp2
  rw [Lib.run_to_unsafe w ⟨b, 0, none⟩ Tryz.underlying222 Tryz.underlying235 hj (by rw [hjs]; decide) hsh (Nat.zero_lt_succ 1)]
  simp only [Result.andThen]
  rw [Oper.upon_value]
  go_wp2
  rw [run_callFunc_extern Tryz.func173 (by kernel_rfl) (by kernel_rfl) (by kernel_rfl) (e := Extern.AbiNoEscape.same) (by kernel_rfl)]
  rw [Lib.run_noEscape]
  simp only [Result.andThen]
  rw [Oper.upon_value]
  go_wp2
  rw [Lib.run_from_unsafe w ⟨b, 0, none⟩ Tryz.underlying235 Tryz.underlying222 hj hsh Builder_Extra_169.liesBuilder]
  simp only [Result.andThen]
  rw [Oper.upon_value]
  go_wp2
  go_end0
  exact ⟨rfl, rfl⟩

theorem bCheck (B b : Nat) (bs : List Value) (w : World) (h : Lib.IsBuilderF 224 5 B b bs w) :
    Calls Tryz.prog 171 #[.pointer (some ⟨b, 0, none⟩)] w fun e w' => e = .returned (.tuple #[]) ∧ (Lib.BuilderAtF 224 5 B b (.pointer (some ⟨b, 0, none⟩)) bs w' ∧ Below B w w' ∧ Lib.OthersKept 5 (some b) w w') := by
  rcases h with h | h
  · refine (bCheck_fresh b w h.cell0 h.shape h.frozen0).mono ?_
    rintro e w' ⟨rfl, rfl⟩
    exact ⟨rfl, h.used _, (Below.refl B w).setCell (p := ⟨b, 0, none⟩) h.1 _, (Lib.OthersKept.refl _ _ w).setCell ⟨b, 0, none⟩ rfl _⟩
  · refine (bCheck_used b w h.cell0).mono ?_
    rintro e w' ⟨rfl, rfl⟩
    exact ⟨rfl, h, Below.refl B _, Lib.OthersKept.refl _ _ _⟩

set_option maxHeartbeats 2000000 in
set_option maxRecDepth 100000 in
theorem bWrite (B b : Nat) (bs : List Value) (s : ByteArray) (w : World) (h : Lib.IsBuilderF 224 5 B b bs w) (hlen : bs.length + s.size ≤ 140737488355328) (hBw : B ≤ w.heap.size) :
    Calls Tryz.prog 167 #[.pointer (some ⟨b, 0, none⟩), .string s] w fun e w' => e = .returned (.tuple #[.int .i64 s.size, .nilIface]) ∧ (Lib.BuilderAtF 224 5 B b (.pointer (some ⟨b, 0, none⟩)) (bs ++ Lib.strCells s) w' ∧ Below B w w' ∧ Lib.OthersKept 5 (some b) w w') := by
  obtain ⟨i0, hi, hz0, hz1, hz2⟩ := info_parts Builder_Extra_169.infoByte
  go_enter Tryz.func167, Tryz.ntmps167
  go_wp2_with (go_at_call 171; refine (bCheck B b bs _ h).mono ?_)
  rintro e w1 ⟨rfl, h1, hb1, hk1⟩
  obtain ⟨hB, v, hbk, hown, hne⟩ := h1
  have c0 : w1.cell? ⟨b, 0, none⟩ = some (.pointer (some ⟨b, 0, none⟩)) := by rw [Lib.cell_of_heap hbk]; rfl
  have c1 : w1.cell? ⟨b, 1, none⟩ = some v := by rw [Lib.cell_of_heap hbk]; rfl
  go_wp2_with (at_builtin; refine Lib.wpList_append_own_stringF _ rfl _ _ 143 9 rfl B 5 i0 Tryz.underlying143 Tryz.underlying9 hi hz0 hz1 hz2 _ _ _ rfl hown s rfl ?c3 ?c4 ?c5 ?_)
  case c3 => unfold maxLen; omega
  case c4 => omega
  case c5 => have := hb1.size; omega
  intro v' w2 hown' hgrow _
  have hlt : b < w1.heap.size := by
    rcases Nat.lt_or_ge b w1.heap.size with h' | h'
    · exact h'
    · simp [Array.getElem?_eq_none h'] at hbk
  have hb2 : w2.heap[b]? = some (.cells #[.pointer (some ⟨b, 0, none⟩), v] 224 (0, 0)) := by
    rw [hgrow.block b hlt (fun e => hne e.symm)]
    exact hbk
  have d0 : w2.cell? ⟨b, 0, none⟩ = some (.pointer (some ⟨b, 0, none⟩)) := by rw [Lib.cell_of_heap hb2]; rfl
  have d1 : w2.cell? ⟨b, 1, none⟩ = some v := by rw [Lib.cell_of_heap hb2]; rfl
  have f1 : w2.frozen? ⟨b, 1, none⟩ = false := Lib.frozen_of_heap hb2 1
  obtain ⟨ao, n', cap, rfl⟩ : ∃ ao n' cap, v' = .slice ao n' cap := by
    rcases hown'.2 with ⟨hv, _⟩ | ⟨g, cap, cur, fz, hv, _⟩
    · exact ⟨_, _, _, hv⟩
    · exact ⟨_, _, _, hv⟩
  go_wp2
  go_ret2
  refine ⟨rfl, ?_, ?_, (hk1.grown hgrow (Lib.ownsRowF_kind hown)).setCell ⟨b, 1, none⟩ rfl _⟩
  · exact Lib.BuilderAtF.put (T := 224) (e := 5) hB hb2 (bs' := bs ++ Lib.strCells s) (by simpa [Lib.strCells_length] using hown') (by decide)
  · exact (hb1.grown hgrow (by have := hb1.size; omega) (fun k hk => (hown.lt k hk).1)).setCell (p := ⟨b, 1, none⟩) hB _
end Go.Proofs.YteibjmlimcpaoaaGreatDoor

set_option linter.unusedVariables false
namespace Go.Proofs.YteibjmlimcpaoaaGreatDoor.T
open Go.RowKit

/-- a builder stays one while every old block stands -/
theorem builderAt_on {T e : TypeId} {B b : Nat} {p : Value} {bs : List Value} {w w' : World} (h : Lib.BuilderAtF T e B b p bs w) (hb : Below w.heap.size w w') : Lib.BuilderAtF T e B b p bs w' := by
  have hlt := h.lt
  obtain ⟨hB, v, hbk, hown, hne⟩ := h
  exact ⟨hB, v, (hb.block b hlt).trans hbk, hown.kept (row := none) ⟨hb.os, hb.tape, hb.output, hb.size, fun k hk _ => hb.block k hk⟩ (by cases hv : v.ownBlock <;> simp), hne⟩
theorem builder_on {T e : TypeId} {B b : Nat} {bs : List Value} {w w' : World} (h : Lib.IsBuilderF T e B b bs w) (hb : Below w.heap.size w w') : Lib.IsBuilderF T e B b bs w' :=
  h.elim (fun x => .inl (builderAt_on x hb)) (fun x => .inr (builderAt_on x hb))

theorem builder_lt {T e : TypeId} {B b : Nat} {bs : List Value} {w : World} (h : Lib.IsBuilderF T e B b bs w) : b < w.heap.size := h.elim (fun x => x.lt) (fun x => x.lt)

theorem letters_step (first : List UInt8 → Nat × Nat × Bool) (f : Nat) (l : List UInt8) (h : 0 < l.length) (hf : l.length ≤ f) :
    letters first f l = ((first l).1, (first l).2.2) :: letters first (f - 1) (l.drop (first l).2.1) := by
  cases f with
  | zero => omega
  | succ f =>
    cases l with
    | nil => simp at h
    | cons a l => rfl
theorem letters_nil (first : List UInt8 → Nat × Nat × Bool) (f : Nat) (l : List UInt8) (h : ¬ 0 < l.length) : letters first f l = [] := by
  have : l = [] := List.eq_nil_of_length_eq_zero (by omega)
  subst this
  cases f <;> rfl
theorem tell_cut (limit : Int) (x : Nat) (br1 : Bool) (r : List (Nat × Bool)) (acc sl : List UInt8) (b h : Bool) (hs : shownL x = sl) (hc : limit < (acc.length : Int) + sl.length) : tell limit ((x, br1) :: r) acc b h = (acc, b, h, true) := by
  rw [tell, hs, if_pos hc]
theorem tell_fit (limit : Int) (x : Nat) (br1 : Bool) (r : List (Nat × Bool)) (acc sl : List UInt8) (b h : Bool) (hs : shownL x = sl) (hc : ¬ limit < (acc.length : Int) + sl.length) : tell limit ((x, br1) :: r) acc b h = tell limit r (acc ++ sl) (b || br1) (h || harmB x) := by
  rw [tell, hs, if_neg hc]
theorem mark_or (a b c d : Bool) : bits .or .i64 (markN a b false) (markN c d false) = markN (a || c) (b || d) false := by
  cases a <;> cases b <;> cases c <;> cases d <;> decide
theorem mark_cut (a b : Bool) : bits .or .i64 (markN a b false) 4 = markN a b true := by
  cases a <;> cases b <;> decide
def strSize : Value → Nat
  | .string t => t.size
  | _ => 0
theorem ba_size (l : List UInt8) : (ByteArray.mk l.toArray).size = l.length := by
  show l.toArray.size = l.length
  simp

theorem size_extract (s : ByteArray) (k : Nat) : (s.extract k s.size).size = s.size - k := by
  simp [ByteArray.size_extract]

theorem shown_length (n : Nat) : (shownL n).length ≤ 6 := by
  unfold shownL
  split
  · have := hexL_length (n : Int).toNat
    simp only [List.length_cons, List.length_append, List.length_nil]
    omega
  · unfold utf8L
    split
    · simp
    · split
      · simp
      · split <;> simp

/-- the block of the character that was read, whatever came above it -/
def ChAt (k : Nat) (v sz : Int) (br : Bool) (w : World) : Prop := w.heap[k]? = some (.cells #[.int .i32 v, .int .i64 sz, .bool br] 226 (0, 0))

theorem ChAt.cells {k : Nat} {v sz : Int} {br : Bool} {w : World} (h : ChAt k v sz br w) : w.cell? ⟨k, 0, none⟩ = some (.int .i32 v) ∧ w.cell? ⟨k, 1, none⟩ = some (.int .i64 sz) ∧ w.cell? ⟨k, 2, none⟩ = some (.bool br) := by
  refine ⟨?_, ?_, ?_⟩ <;> (rw [Lib.cell_of_heap h]; rfl)
theorem ChAt.on {k : Nat} {v sz : Int} {br : Bool} {w w' : World} (h : ChAt k v sz br w) (hb : Below w.heap.size w w') : ChAt k v sz br w' := by
  have hk : k < w.heap.size := (Array.getElem?_eq_some_iff.1 h).1
  exact (hb.block k hk).trans h
theorem ChAt.others {k b : Nat} {v sz : Int} {br : Bool} {w w' : World} (h : ChAt k v sz br w) (hk : k ≠ b) (hb : Lib.OthersKept 5 (some b) w w') : ChAt k v sz br w' :=
  hb k _ h (fun e => hk (Option.some.inj e)) (fun c fz e => by cases e)
theorem ChAt.new (w : World) (v sz : Int) (br : Bool) : ChAt w.heap.size v sz br (w.alloc (.cells #[.int .i32 v, .int .i64 sz, .bool br] 226)) := by
  unfold ChAt
  have := heap_alloc_new w (.cells #[.int .i32 v, .int .i64 sz, .bool br] 226)
  exact this

theorem firstN_facts (l : List UInt8) (h : 0 < l.length) : okC (firstN l).1 ∧ 1 ≤ (firstN l).2.1 ∧ (firstN l).2.1 ≤ l.length := by
  unfold firstN okC
  split
  · refine ⟨?_, by simp, h⟩
    simp only
    omega
  · refine ⟨by decide, by simp, h⟩

set_option maxRecDepth 100000 in
set_option maxHeartbeats 2000000 in
theorem showN (s : ByteArray) (limit : Int) (w : World) (r : List UInt8 × Bool × Bool × Bool) (hs : s.size ≤ 1048576) (ht : Tab w) (hr : tell limit (letters firstN s.size s.data.toList) [] false false = r) :
    Calls Tryz.prog 155 #[.string s, .int .i64 limit, .func (.func 156) #[] #[]] w fun e w' => e = .returned (.tuple #[.string ⟨r.1.toArray⟩, .int .i64 (markN r.2.1 r.2.2.1 r.2.2.2)]) ∧ Below w.heap.size w w' := by
  have HR := Lib.hid hr
  clear hr
  go_enter Tryz.func155, Tryz.ntmps155
  go_wp2
  go_loopw [0, 9] (fun bs ms wr => ∃ (t : ByteArray) (fuel : Nat) (acc : List UInt8) (br hd : Bool), bs = .string t ∧ ms = .int .i64 (markN br hd false) ∧ Lib.IsBuilderF 224 5 w.heap.size w.heap.size (Lib.byteCells acc) wr ∧ Below w.heap.size w wr ∧ t.size ≤ fuel ∧ t.size ≤ 1048576 ∧ acc.length + 6 * t.size ≤ 6291456 ∧ Hid (tell limit (letters firstN fuel t.data.toList) acc br hd = r)) (fun bs _ _ => strSize bs)
  case atStart =>
    exact ⟨s, s.size, [], false, false, rfl, rfl, Lib.IsBuilderF.of (Lib.fresh_isBuilder 224 5 w), (Below.refl _ w).alloc (Nat.le_refl _) _, Nat.le_refl _, hs, by simp; omega, HR⟩
  case round =>
    obtain ⟨t, fuel, acc, br, hd, rfl, rfl, hI, hbw, hfu, hts, hal, H⟩ := hrel
    by_cases h0 : 0 < t.size
    · obtain ⟨fv, hfv⟩ : ∃ x, firstN t.data.toList = x := ⟨_, rfl⟩
      have ff := firstN_facts t.data.toList (by simpa using h0)
      have C17 := Lib.hid (fun w => narrow17 t w h0)
      rw [hfv] at ff C17
      obtain ⟨v, sz, br1⟩ := fv
      simp only at ff C17
      obtain ⟨fok, f1, f2⟩ := ff
      have htr : Tab wr := ht.below hbw ht.lt
      go_wp2_with (go_at_call 156; refine (C17.out _).mono ?_; rintro e w1 ⟨rfl, hb1⟩; refine Hid.out ?_)
      refine Lib.hid ?_
      have hI2 := (builder_on hI hb1).alloc (.cells #[.int .i32 (v : Int), .int .i64 (sz : Int), .bool br1] 226)
      have ht2 : Tab (w1.alloc (.cells #[.int .i32 (v : Int), .int .i64 (sz : Int), .bool br1] 226)) := tab_alloc (htr.on hb1)
      have hc2 := ChAt.new w1 v sz br1
      have hkw : w.heap.size < w1.heap.size := Nat.lt_of_lt_of_le (builder_lt hI) hb1.size
      have hbw2 := (hbw.trans (hb1.mono hbw.size)).alloc (Nat.le_of_lt hkw) (.cells #[.int .i32 (v : Int), .int .i64 (sz : Int), .bool br1] 226)
      go_wp2_with (go_at_call 164; refine (shown21 v _ fok ht2).mono ?_; rintro e w3 ⟨rfl, hb3⟩; refine Hid.out ?_)
      have hI3 := builder_on hI2 hb3
      have hc3 := hc2.on hb3
      have hbw3 := hbw2.trans (hb3.mono hbw2.size)
      have hl6 := shown_length v
      clear hb3 hc2 hI2 ht2 hbw2 hI hbw
      obtain ⟨k0, k1, k2⟩ := hc3.cells
      obtain ⟨b, hb⟩ : ∃ b, w.heap.size = b := ⟨_, rfl⟩
      obtain ⟨kk, hkk⟩ : ∃ kk, w1.heap.size = kk := ⟨_, rfl⟩
      obtain ⟨sl, hsl⟩ : ∃ sl, shownL (v : Int) = sl := ⟨_, rfl⟩
      rw [hb, hkk] at hkw
      rw [hkk] at hc3 k0 k1 k2
      have hbsz := hbw3.size
      rw [hb] at hI3 hbw3 hbsz
      rw [hsl] at hl6
      refine Lib.hid ?_
      rw [hsl, hb, hkk]
      clear hkk hb1
      have HB := Lib.hid hb
      have HSL := Lib.hid hsl
      have hst := letters_step firstN fuel t.data.toList (by simpa using h0) (by simpa using hfu)
      rw [hfv] at hst
      have h1 := H.out
      rw [hst] at h1
      have H1 := Lib.hid h1
      clear h1 hst H hfv
      have L22 := Lib.hid (bLen b b (Lib.byteCells acc) w3 hI3)
      rw [Lib.byteCells_length] at L22
      by_cases hfit : limit < (acc.length : Int) + sl.length
      · have h2 := H1.out
        rw [tell_cut limit v br1 _ acc sl br hd hsl hfit] at h2
        have H2 := Lib.hid h2
        have hm4 := mark_cut br hd
        clear h2 H1 hb hsl
        go_wp2_with (first | (go_at_call 165; refine L22.out.mono ?_; rintro e w4 ⟨rfl, rfl⟩) | (go_at_call 166; refine (bString b b acc _ hI3 hbsz).mono ?_; rintro e w5 ⟨rfl, hI4, hb4, _⟩))
        go_ret2
        refine ⟨?_, ?_⟩
        · rw [← H2.out]
          rfl
        · rw [HB.out]
          exact hbw3.trans hb4
      · have h2 := H1.out
        rw [tell_fit limit v br1 _ acc sl br hd hsl hfit] at h2
        have H2 := Lib.hid h2
        have hm4 := mark_or br hd br1 (harmB v)
        have M25 := Lib.hid (fun w => marks25 v sz br1 w)
        clear h2 H1 hb hsl
        have W24 := Lib.hid (bWrite b b (Lib.byteCells acc) ⟨sl.toArray⟩ w3 hI3 (by rw [Lib.byteCells_length, ba_size]; omega) hbsz)
        go_wp2_with (first | (go_at_call 165; refine L22.out.mono ?_; rintro e w4 ⟨rfl, rfl⟩) | (go_at_call 167; refine W24.out.mono ?_; rintro e w5 ⟨rfl, hI4, hb4, ho4⟩; refine Hid.out ?_))
        have hc4 := hc3.others (by omega) ho4
        obtain ⟨j0, j1, j2⟩ := hc4.cells
        refine Lib.hid ?_
        go_wp2_with (go_at_call 168; refine (M25.out _).mono ?_; rintro e w6 ⟨rfl, hb6⟩; refine Hid.out ?_)
        obtain ⟨i0, i1, i2⟩ := (hc4.on hb6).cells
        have hI6 := builderAt_on hI4 hb6
        have hbw6 := (hbw3.trans hb4).trans (hb6.mono (Nat.le_trans hbsz hb4.size))
        refine Lib.hid ?_
        clear j0 j1 j2 k0 k1 k2
        go_wp2
        have hb := HB.out
        subst hb
        go_roundw
        case rel =>
          refine ⟨t.extract sz t.size, fuel - 1, acc ++ sl, br || br1, hd || harmB v, rfl, rfl, ?_, hbw6, ?_, ?_, ?_, ?_⟩
          · rw [Lib.byteCells_append]
            refine Or.inr ?_
            exact hI6
          · rw [size_extract]; omega
          · rw [size_extract]; omega
          · rw [size_extract, List.length_append]; omega
          · rw [extract_toList]; exact H2
        case measure =>
          show (t.extract sz t.size).size < t.size
          rw [size_extract]
          omega
    · have h1 := H.out
      rw [letters_nil firstN fuel t.data.toList (by simpa using h0)] at h1
      have H1 := Lib.hid h1
      clear h1 H
      have h0' : ¬ (0 < (t.size : Int)) := by omega
      go_wp2_with (go_at_call 166; refine (bString _ _ acc _ hI hbw.size).mono ?_; rintro e w5 ⟨rfl, hI4, hb4, _⟩)
      go_ret2
      refine ⟨?_, hbw.trans hb4⟩
      rw [← H1.out]
      rfl
end Go.Proofs.YteibjmlimcpaoaaGreatDoor.T

set_option linter.unusedVariables false
namespace Go.Proofs.YteibjmlimcpaoaaGreatDoor.T
open Go.RowKit

theorem firstW_facts (l : List UInt8) (h : 2 ≤ l.length) : okC (firstW l).1 ∧ 1 ≤ (firstW l).2.1 ∧ (firstW l).2.1 ≤ l.length ∧ (firstW l).2.1 % 2 = 0 := by
  have h0 := pairN_lt l
  unfold firstW okC
  split
  · refine ⟨?_, by simp, h, by simp⟩
    simp only
    omega
  · split
    · refine ⟨?_, by simp, by simp only; omega, by simp⟩
      simp only
      omega
    · exact ⟨by decide, by simp, h, by simp⟩

set_option maxRecDepth 100000 in
set_option maxHeartbeats 2000000 in
theorem showW (s : ByteArray) (limit : Int) (w : World) (r : List UInt8 × Bool × Bool × Bool) (hs : s.size ≤ 1048576) (hev : s.size % 2 = 0) (ht : Tab w) (hr : tell limit (letters firstW s.size s.data.toList) [] false false = r) :
    Calls Tryz.prog 155 #[.string s, .int .i64 limit, .func (.func 157) #[] #[]] w fun e w' => e = .returned (.tuple #[.string ⟨r.1.toArray⟩, .int .i64 (markN r.2.1 r.2.2.1 r.2.2.2)]) ∧ Below w.heap.size w w' := by
  have HR := Lib.hid hr
  clear hr
  go_enter Tryz.func155, Tryz.ntmps155
  go_wp2
  go_loopw [0, 9] (fun bs ms wr => ∃ (t : ByteArray) (fuel : Nat) (acc : List UInt8) (br hd : Bool), bs = .string t ∧ ms = .int .i64 (markN br hd false) ∧ Lib.IsBuilderF 224 5 w.heap.size w.heap.size (Lib.byteCells acc) wr ∧ Below w.heap.size w wr ∧ t.size ≤ fuel ∧ t.size ≤ 1048576 ∧ t.size % 2 = 0 ∧ acc.length + 6 * t.size ≤ 6291456 ∧ Hid (tell limit (letters firstW fuel t.data.toList) acc br hd = r)) (fun bs _ _ => strSize bs)
  case atStart =>
    exact ⟨s, s.size, [], false, false, rfl, rfl, Lib.IsBuilderF.of (Lib.fresh_isBuilder 224 5 w), (Below.refl _ w).alloc (Nat.le_refl _) _, Nat.le_refl _, hs, hev, by simp; omega, HR⟩
  case round =>
    obtain ⟨t, fuel, acc, br, hd, rfl, rfl, hI, hbw, hfu, hts, hte, hal, H⟩ := hrel
    by_cases h0 : 0 < t.size
    · obtain ⟨fv, hfv⟩ : ∃ x, firstW t.data.toList = x := ⟨_, rfl⟩
      have ff := firstW_facts t.data.toList (by have : t.data.toList.length = t.size := (by simp); omega)
      have C17 := Lib.hid (fun w => wide18 t w (by omega) hts)
      rw [hfv] at ff C17
      obtain ⟨v, sz, br1⟩ := fv
      simp only at ff C17
      obtain ⟨fok, f1, f2, f3⟩ := ff
      have htr : Tab wr := ht.below hbw ht.lt
      go_wp2_with (go_at_call 157; refine (C17.out _).mono ?_; rintro e w1 ⟨rfl, hb1⟩; refine Hid.out ?_)
      refine Lib.hid ?_
      have hI2 := (builder_on hI hb1).alloc (.cells #[.int .i32 (v : Int), .int .i64 (sz : Int), .bool br1] 226)
      have ht2 : Tab (w1.alloc (.cells #[.int .i32 (v : Int), .int .i64 (sz : Int), .bool br1] 226)) := tab_alloc (htr.on hb1)
      have hc2 := ChAt.new w1 v sz br1
      have hkw : w.heap.size < w1.heap.size := Nat.lt_of_lt_of_le (builder_lt hI) hb1.size
      have hbw2 := (hbw.trans (hb1.mono hbw.size)).alloc (Nat.le_of_lt hkw) (.cells #[.int .i32 (v : Int), .int .i64 (sz : Int), .bool br1] 226)
      go_wp2_with (go_at_call 164; refine (shown21 v _ fok ht2).mono ?_; rintro e w3 ⟨rfl, hb3⟩; refine Hid.out ?_)
      have hI3 := builder_on hI2 hb3
      have hc3 := hc2.on hb3
      have hbw3 := hbw2.trans (hb3.mono hbw2.size)
      have hl6 := shown_length v
      clear hb3 hc2 hI2 ht2 hbw2 hI hbw
      obtain ⟨k0, k1, k2⟩ := hc3.cells
      obtain ⟨b, hb⟩ : ∃ b, w.heap.size = b := ⟨_, rfl⟩
      obtain ⟨kk, hkk⟩ : ∃ kk, w1.heap.size = kk := ⟨_, rfl⟩
      obtain ⟨sl, hsl⟩ : ∃ sl, shownL (v : Int) = sl := ⟨_, rfl⟩
      rw [hb, hkk] at hkw
      rw [hkk] at hc3 k0 k1 k2
      have hbsz := hbw3.size
      rw [hb] at hI3 hbw3 hbsz
      rw [hsl] at hl6
      refine Lib.hid ?_
      rw [hsl, hb, hkk]
      clear hkk hb1
      have HB := Lib.hid hb
      have HSL := Lib.hid hsl
      have hst := letters_step firstW fuel t.data.toList (by simpa using h0) (by simpa using hfu)
      rw [hfv] at hst
      have h1 := H.out
      rw [hst] at h1
      have H1 := Lib.hid h1
      clear h1 hst H hfv
      have L22 := Lib.hid (bLen b b (Lib.byteCells acc) w3 hI3)
      rw [Lib.byteCells_length] at L22
      by_cases hfit : limit < (acc.length : Int) + sl.length
      · have h2 := H1.out
        rw [tell_cut limit v br1 _ acc sl br hd hsl hfit] at h2
        have H2 := Lib.hid h2
        have hm4 := mark_cut br hd
        clear h2 H1 hb hsl
        go_wp2_with (first | (go_at_call 165; refine L22.out.mono ?_; rintro e w4 ⟨rfl, rfl⟩) | (go_at_call 166; refine (bString b b acc _ hI3 hbsz).mono ?_; rintro e w5 ⟨rfl, hI4, hb4, _⟩))
        go_ret2
        refine ⟨?_, ?_⟩
        · rw [← H2.out]
          rfl
        · rw [HB.out]
          exact hbw3.trans hb4
      · have h2 := H1.out
        rw [tell_fit limit v br1 _ acc sl br hd hsl hfit] at h2
        have H2 := Lib.hid h2
        have hm4 := mark_or br hd br1 (harmB v)
        have M25 := Lib.hid (fun w => marks25 v sz br1 w)
        clear h2 H1 hb hsl
        have W24 := Lib.hid (bWrite b b (Lib.byteCells acc) ⟨sl.toArray⟩ w3 hI3 (by rw [Lib.byteCells_length, ba_size]; omega) hbsz)
        go_wp2_with (first | (go_at_call 165; refine L22.out.mono ?_; rintro e w4 ⟨rfl, rfl⟩) | (go_at_call 167; refine W24.out.mono ?_; rintro e w5 ⟨rfl, hI4, hb4, ho4⟩; refine Hid.out ?_))
        have hc4 := hc3.others (by omega) ho4
        obtain ⟨j0, j1, j2⟩ := hc4.cells
        refine Lib.hid ?_
        go_wp2_with (go_at_call 168; refine (M25.out _).mono ?_; rintro e w6 ⟨rfl, hb6⟩; refine Hid.out ?_)
        obtain ⟨i0, i1, i2⟩ := (hc4.on hb6).cells
        have hI6 := builderAt_on hI4 hb6
        have hbw6 := (hbw3.trans hb4).trans (hb6.mono (Nat.le_trans hbsz hb4.size))
        refine Lib.hid ?_
        clear j0 j1 j2 k0 k1 k2
        go_wp2
        have hb := HB.out
        subst hb
        go_roundw
        case rel =>
          refine ⟨t.extract sz t.size, fuel - 1, acc ++ sl, br || br1, hd || harmB v, rfl, rfl, ?_, hbw6, ?_, ?_, ?_, ?_, ?_⟩
          · rw [Lib.byteCells_append]
            refine Or.inr ?_
            exact hI6
          · rw [size_extract]; omega
          · rw [size_extract]; omega
          · rw [size_extract]; omega
          · rw [size_extract, List.length_append]; omega
          · rw [extract_toList]; exact H2
        case measure =>
          show (t.extract sz t.size).size < t.size
          rw [size_extract]
          omega
    · have h1 := H.out
      rw [letters_nil firstW fuel t.data.toList (by simpa using h0)] at h1
      have H1 := Lib.hid h1
      clear h1 H
      have h0' : ¬ (0 < (t.size : Int)) := by omega
      go_wp2_with (go_at_call 166; refine (bString _ _ acc _ hI hbw.size).mono ?_; rintro e w5 ⟨rfl, hI4, hb4, _⟩)
      go_ret2
      refine ⟨?_, hbw.trans hb4⟩
      rw [← H1.out]
      rfl

set_option maxRecDepth 100000 in
set_option maxHeartbeats 1000000 in
theorem tell9_no (p q : Int) (s : ByteArray) (limit : Int) (w : World) (hk : (twoB p q || oneB p q) = false) :
    Calls Tryz.prog 140 #[.int .i64 p, .int .i64 q, .string s, .int .i64 limit] w fun e w' => e = .returned (.tuple #[.string ⟨#[]⟩, .int .i64 0, .int .i64 7]) ∧ Below w.heap.size w w' := by
  have K := Lib.hid (fun w => known15 p q w)
  rw [hk] at K
  clear hk
  go_enter Tryz.func140, Tryz.ntmps140
  go_wp2_with (go_at_call 154; refine (K.out _).mono ?_; rintro e w' ⟨rfl, rfl⟩)
  go_ret3
  exact ⟨rfl, Below.refl _ _⟩

set_option maxRecDepth 100000 in
set_option maxHeartbeats 1000000 in
theorem tell9_one (q : Int) (s : ByteArray) (limit : Int) (w : World) (r : List UInt8 × Bool × Bool × Bool) (hk : oneB 1 q = true) (hs : s.size ≤ 1048576) (ht : Tab w) (hr : tell limit (letters firstN s.size s.data.toList) [] false false = r) :
    Calls Tryz.prog 140 #[.int .i64 1, .int .i64 q, .string s, .int .i64 limit] w fun e w' => e = .returned (.tuple #[.string ⟨r.1.toArray⟩, .int .i64 (markN r.2.1 r.2.2.1 r.2.2.2), .int .i64 0]) ∧ Below w.heap.size w w' := by
  have K := Lib.hid (fun w => known15 1 q w)
  rw [hk, Bool.or_true] at K
  have S := Lib.hid (showN s limit w r hs ht hr)
  clear hk hr
  go_enter Tryz.func140, Tryz.ntmps140
  go_wp2_with (first | (go_at_call 154; refine (K.out _).mono ?_; rintro e w' ⟨rfl, rfl⟩) | (go_at_call 155; refine S.out.mono ?_; rintro e w' ⟨rfl, hb⟩))
  go_ret3
  exact ⟨rfl, hb⟩

set_option maxRecDepth 100000 in
set_option maxHeartbeats 1000000 in
theorem tell9_bad (p q : Int) (s : ByteArray) (limit : Int) (w : World) (hk : twoB p q = true) (hp : (p == 1) = false) (hs : s.size ≤ 1048576) (ho : s.size % 2 = 1) :
    Calls Tryz.prog 140 #[.int .i64 p, .int .i64 q, .string s, .int .i64 limit] w fun e w' => e = .returned (.tuple #[.string ⟨#[]⟩, .int .i64 0, .int .i64 6]) ∧ Below w.heap.size w w' := by
  have K := Lib.hid (fun w => known15 p q w)
  rw [hk, Bool.true_or] at K
  clear hk
  have ho' : (s.size : Int) % 2 = 1 := by omega
  go_enter Tryz.func140, Tryz.ntmps140
  go_wp2_with (go_at_call 154; refine (K.out _).mono ?_; rintro e w' ⟨rfl, rfl⟩)
  go_ret3
  exact ⟨rfl, Below.refl _ _⟩

set_option maxRecDepth 100000 in
set_option maxHeartbeats 1000000 in
theorem tell9_two (p q : Int) (s : ByteArray) (limit : Int) (w : World) (r : List UInt8 × Bool × Bool × Bool) (hk : twoB p q = true) (hp : (p == 1) = false) (hs : s.size ≤ 1048576) (ho : s.size % 2 = 0) (ht : Tab w) (hr : tell limit (letters firstW s.size s.data.toList) [] false false = r) :
    Calls Tryz.prog 140 #[.int .i64 p, .int .i64 q, .string s, .int .i64 limit] w fun e w' => e = .returned (.tuple #[.string ⟨r.1.toArray⟩, .int .i64 (markN r.2.1 r.2.2.1 r.2.2.2), .int .i64 0]) ∧ Below w.heap.size w w' := by
  have K := Lib.hid (fun w => known15 p q w)
  rw [hk, Bool.true_or] at K
  have S := Lib.hid (showW s limit w r hs ho ht hr)
  clear hk hr
  have ho' : (s.size : Int) % 2 = 0 := by omega
  go_enter Tryz.func140, Tryz.ntmps140
  go_wp2_with (first | (go_at_call 154; refine (K.out _).mono ?_; rintro e w' ⟨rfl, rfl⟩) | (go_at_call 155; refine S.out.mono ?_; rintro e w' ⟨rfl, hb⟩))
  go_ret3
  exact ⟨rfl, hb⟩

theorem tell9 (p q : Int) (s : ByteArray) (limit : Int) (w : World) (hs : s.size ≤ 1048576) (ht : Tab w) :
    Calls Tryz.prog 140 #[.int .i64 p, .int .i64 q, .string s, .int .i64 limit] w fun e w' => e = .returned (.tuple #[.string ⟨(textOf p q s.data.toList limit).1.toArray⟩, .int .i64 (textOf p q s.data.toList limit).2.1, .int .i64 (textOf p q s.data.toList limit).2.2]) ∧ Below w.heap.size w w' := by
  have hl : s.data.toList.length = s.size := by simp
  unfold textOf
  rw [hl]
  cases h2 : twoB p q
  · cases h1 : oneB p q
    · exact tell9_no p q s limit w (by rw [h1, h2]; rfl)
    · have hp : p = 1 := by simp only [oneB, decide_eq_true_eq] at h1; exact h1.1
      subst hp
      exact tell9_one q s limit w _ h1 hs ht rfl
  · have hp : (p == 1) = false := by
      simp only [twoB, decide_eq_true_eq] at h2
      simp only [beq_eq_false_iff_ne]
      omega
    by_cases ho : s.size % 2 = 1
    · rw [if_pos ho]
      exact tell9_bad p q s limit w h2 hp hs ho
    · rw [if_neg ho]
      exact tell9_two p q s limit w _ h2 hp hs (by omega) ht rfl

end Go.Proofs.YteibjmlimcpaoaaGreatDoor.T
