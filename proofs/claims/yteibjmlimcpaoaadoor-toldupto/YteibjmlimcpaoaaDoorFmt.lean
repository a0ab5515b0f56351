/-
  strconv.FormatInt at the base 16, for every number from 0 to 65535: it answers the number's hexadecimal digits, and nothing that lay in memory turns, where the library's table deBruijn64tab holds 4 at the place 15.
-/
import Derived.Test.YteibjmlimcpaoaaDoorLeafb
set_option linter.unusedVariables false
namespace Go.Proofs.YteibjmlimcpaoaaDoor.T
open Go.RowKit

/-- the one number of the library's table that is read -/
def Tab (w : World) : Prop := w.cell? ⟨7, 15, none⟩ = some (.int .u8 4)

theorem Tab.lt {w : World} (h : Tab w) : 7 < w.heap.size := by
  rcases Nat.lt_or_ge 7 w.heap.size with h' | h'
  · exact h'
  · simp [Tab, World.cell?, Array.getElem?_eq_none h'] at h

theorem Tab.below {B : Nat} {w w' : World} (h : Tab w) (hb : Below B w w') (hB : 7 < B) : Tab w' := by
  unfold Tab
  rw [hb.cell (p := ⟨7, 15, none⟩) hB]
  exact h

theorem Tab.on {w w' : World} (h : Tab w) (hb : Below w.heap.size w w') : Tab w' := h.below hb h.lt

theorem tab_alloc {w : World} {o : Obj} (ht : Tab w) : (w.alloc o).cell? ⟨7, 15, none⟩ = some (.int .u8 4) := by
  have h := ht.lt
  rw [World.cell?_alloc_old]
  · exact ht
  · show 7 ≠ w.heap.size
    omega

set_option maxRecDepth 100000 in
set_option maxHeartbeats 400000 in
theorem tz42 (w : World) (ht : w.cell? ⟨7, 15, none⟩ = some (.int .u8 4)) :
    Calls Tryd.prog 168 #[.int .u64 16] w fun e w' => e = .returned (.int .i64 4) ∧ w' = w := by
  have e15 : IntKind.u64.wrap (bits BinOp.and IntKind.u64 16 (IntKind.u64.wrap (-16)) * 285870213051353865) / 288230376151711744 = 15 := by decide +kernel
  go_enter Tryd.func168, Tryd.ntmps168
  go_wp2
  go_ret
  exact ⟨rfl, rfl⟩

set_option maxRecDepth 100000 in
set_option maxHeartbeats 400000 in
theorem tz40 (w : World) (ht : w.cell? ⟨7, 15, none⟩ = some (.int .u8 4)) :
    Calls Tryd.prog 166 #[.int .u64 16] w fun e w' => e = .returned (.int .i64 4) ∧ w' = w := by
  go_enter Tryd.func166, Tryd.ntmps166
  go_wp2_with (go_at_call 168; refine (tz42 _ ht).mono ?_; rintro e w' ⟨rfl, rfl⟩)
  go_ret
  exact ⟨rfl, rfl⟩

set_option maxRecDepth 100000 in
set_option maxHeartbeats 400000 in
theorem pow39 (w : World) :
    Calls Tryd.prog 165 #[.int .i64 16] w fun e w' => e = .returned (.bool true) ∧ w' = w := by
  go_enter Tryd.func165, Tryd.ntmps165
  go_wp2
  go_ret
  exact ⟨rfl, rfl⟩

def zeros65 : Array Value := ⟨List.replicate 65 (.int .u8 0)⟩
theorem zeros65_size : zeros65.size = 65 := by simp [zeros65]
theorem zero68 (w : World) : (zeroValue 212).run Tryd.prog w = .ok (.agg zeros65) w := by kernel_rfl

theorem digits_at (k : Nat) (h : k < 16) (hk : k < (ByteArray.mk #[48, 49, 50, 51, 52, 53, 54, 55, 56, 57, 97, 98, 99, 100, 101, 102, 103, 104, 105, 106, 107, 108, 109, 110, 111, 112, 113, 114, 115, 116, 117, 118, 119, 120, 121, 122]).size) : (ByteArray.mk #[48, 49, 50, 51, 52, 53, 54, 55, 56, 57, 97, 98, 99, 100, 101, 102, 103, 104, 105, 106, 107, 108, 109, 110, 111, 112, 113, 114, 115, 116, 117, 118, 119, 120, 121, 122])[k] = dig k := by
  have : ∀ i : Fin 16, (ByteArray.mk #[48, 49, 50, 51, 52, 53, 54, 55, 56, 57, 97, 98, 99, 100, 101, 102, 103, 104, 105, 106, 107, 108, 109, 110, 111, 112, 113, 114, 115, 116, 117, 118, 119, 120, 121, 122])[i.val]'(Nat.lt_trans i.isLt (by decide)) = dig i.val := by decide
  exact this ⟨k, h⟩

theorem and15 (x : Int) (h₀ : 0 ≤ x) (h₁ : x < 65536) : bits .and .u64 x 15 = x % 16 := by
  have := u64_and x 15 h₀ (by omega) (by omega) (by omega)
  rw [this]
  have e : x.toNat &&& 15 = x.toNat % 16 := Nat.and_two_pow_sub_one_eq_mod x.toNat 4
  show ((x.toNat &&& 15 : Nat) : Int) = _
  rw [e]
  omega

theorem al68 : Tryd.prog.arrayLen 212 = 65 := by simp [Program.arrayLen, Tryd.underlying212]
theorem el68 : Tryd.prog.elem 212 = 5 := by simp [Program.elem, Tryd.underlying212]
theorem addr_add (b o j : Nat) : (⟨b, o, none⟩ : Addr).add j = ⟨b, o + j, none⟩ := by simp [Addr.add]

theorem arr_put {arr : Array Value} {t : List UInt8} {i : Nat} {d : UInt8} (h : ∀ j, (hj : j < t.length) → arr[i + j]? = some (.int .u8 (t[j].toNat : Int))) (h1 : 1 ≤ i) (h2 : i ≤ arr.size) :
    ∀ j, (hj : j < (d :: t).length) → (arr.setIfInBounds (i - 1) (.int .u8 (d.toNat : Int)))[i - 1 + j]? = some (.int .u8 ((d :: t)[j].toNat : Int)) := by
  intro j hj
  cases j with
  | zero =>
    rw [Nat.add_zero, Array.getElem?_setIfInBounds_self_of_lt (by omega)]
    rfl
  | succ j =>
    have hj' : j < t.length := by simpa using hj
    have := h j hj'
    rw [show i - 1 + (j + 1) = i + j by omega, Array.getElem?_setIfInBounds_ne (by omega), this]
    rfl

set_option maxRecDepth 100000 in
set_option maxHeartbeats 1000000 in
theorem bits35 (n : Nat) (w : World) (hn : n < 65536) (ht : Tab w) :
    Calls Tryd.prog 155 #[.slice none 0 0, .int .u64 n, .int .i64 16, .bool false, .bool false] w fun e w' => e = .returned (.tuple #[.slice none 0 0, .string ⟨(hexL n).toArray⟩]) ∧ Below w.heap.size w w' := by
  have hlt := ht.lt
  have hz := zero68
  go_enter Tryd.func155, Tryd.ntmps155
  go_wp2_with (first | (go_at_call 165; refine (pow39 _).mono ?_; rintro e w' ⟨rfl, rfl⟩) | (go_at_call 166; refine (tz40 _ (tab_alloc ht)).mono ?_; rintro e w' ⟨rfl, rfl⟩))
  clear hz
  go_loopw [1, 13] (fun us is wr => ∃ (f u i : Nat) (t : List UInt8) (arr : Array Value), us = .int .u64 u ∧ is = .int .i64 i ∧ wr = w.alloc (.cells arr 212) ∧ arr.size = 65 ∧ i + t.length = 65 ∧ t.length + f = 3 ∧ u < 16 ^ (f + 1) ∧ Hid (hexT f u (dig (u % 16) :: t) = hexL n) ∧ Hid (∀ j, (hj : j < t.length) → arr[i + j]? = some (.int .u8 (t[j].toNat : Int)))) (fun us _ _ => (intOf us).toNat)
  case atStart =>
    exact ⟨3, n, 65, [], zeros65, rfl, rfl, rfl, zeros65_size, rfl, rfl, hn, rfl, fun j hj => by cases hj⟩
  case round =>
    obtain ⟨f, u, i, t, arr, rfl, rfl, rfl, hsz, hi, hf, hu, H, HA⟩ := hrel
    have hu2 : u < 65536 := by
      have : 16 ^ (f + 1) ≤ 16 ^ 4 := Nat.pow_le_pow_right (by omega) (by omega)
      omega
    by_cases hge : 16 ≤ u
    · have hi1 : 1 ≤ i := by omega
      have ha15 : bits .and .u64 (u : Int) 15 = ((u % 16 : Nat) : Int) := by rw [and15 _ (by omega) (by omega)]; omega
      have hm : u % 16 < 16 := by omega
      have hm36 : (u % 16 : Int) < 36 := by omega
      obtain ⟨v, hv⟩ : ∃ v, arr[i - 1]? = some v := ⟨_, Array.getElem?_eq_getElem (by omega)⟩
      obtain ⟨g, rfl⟩ : ∃ g, f = g + 1 := ⟨f - 1, by
        rcases f with _ | f
        · simp at hu; omega
        · rfl⟩
      go_wp2
      rw [digits_at (u % 16) hm]
      refine ⟨⟨g, u / 16, i - 1, dig (u % 16) :: t, _, by go_num, by go_num, rfl, by simpa using hsz, by simp; omega, by simp; omega, ?_, ?_, ?_⟩, by simp [intOf]; omega⟩
      · rw [Nat.pow_succ] at hu
        omega
      · have h1 := H.out
        rw [hexT, if_neg (by omega)] at h1
        exact h1
      · intro j hj
        exact arr_put HA.out (by omega) (by omega) j hj
    · have hi1 : 1 ≤ i := by omega
      obtain ⟨m, rfl⟩ : ∃ m, i = m + 1 := ⟨i - 1, by omega⟩
      obtain ⟨v, hv⟩ : ∃ v, arr[m]? = some v := ⟨_, Array.getElem?_eq_getElem (by omega)⟩
      have hm36 : (u : Int) < 36 := by omega
      have hlt16 : u < 16 := by omega
      go_wp2
      rw [digits_at u hlt16]
      have h1 := H.out
      have h2 : hexT f u (dig (u % 16) :: t) = dig u :: t := by
        rw [show u % 16 = u by omega]
        cases f with
        | zero => rfl
        | succ f => rw [hexT, if_pos hlt16]
      rw [h2] at h1
      have hA2 := arr_put (d := dig u) HA.out (by omega) (by omega)
      simp only [Nat.add_sub_cancel] at hA2
      have hsl : ∀ W, (Instr.sliceAt 212 (.pointer (some ⟨w.heap.size, 0, none⟩)) (some (.int .i64 (m : Int))) none none).run Tryd.prog W = .ok (.slice (some ⟨w.heap.size, m, none⟩) (dig u :: t).length (dig u :: t).length) W := by
        intro W
        rw [run_sliceAt_array_l W 212 ⟨w.heap.size, 0, none⟩ (by simp [Program.arrayLen, Program.elem, Tryd.underlying212]) .i64 (m : Int) (by omega) (by rw [al68]; omega)]
        rw [al68, el68, Tryd.sizeOf5]
        simp only [Result.andThen, slicedAt]
        rw [if_neg (by simp; omega), addr_add]
        simp only [Int.toNat_natCast, Nat.mul_one, Nat.zero_add, List.length_cons]
        rw [show 65 - m = t.length + 1 by omega]
      have hcv : (convert 62 9 (.slice (some ⟨w.heap.size, m, none⟩) (dig u :: t).length (dig u :: t).length)).run Tryd.prog (w.alloc (.cells (arr.setIfInBounds m (.int .u8 ((dig u).toNat : Int))) 212)) = .ok (.string ⟨(dig u :: t).toArray⟩) (w.alloc (.cells (arr.setIfInBounds m (.int .u8 ((dig u).toNat : Int))) 212)) := by
        refine run_convert_bytes_back _ 62 9 5 ⟨w.heap.size, m, none⟩ _ (dig u :: t) Tryd.underlying62 Tryd.underlying5 Tryd.underlying9 ?_
        intro j hj
        rw [addr_add, World.cell?_alloc_new]
        exact hA2 j hj
      have H1 := Lib.hid h1
      have hlen : (dig u :: t).length ≤ 4 := by simp; omega
      clear h1 h2 hA2
      generalize arr.setIfInBounds m (.int .u8 ((dig u).toNat : Int)) = arr2 at *
      generalize dig u :: t = l at *
      rw [hsl]
      simp only [Result.andThen]
      rw [Oper.upon_value]
      go_wp2
      go_ret2
      refine ⟨?_, (Below.refl _ _).alloc (Nat.le_refl _) _⟩
      rw [← H1.out]
      rfl

set_option maxRecDepth 100000 in
set_option maxHeartbeats 1000000 in
theorem fmt30 (n : Nat) (w : World) (hn : n < 65536) (ht : Tab w) :
    Calls Tryd.prog 134 #[.int .i64 n, .int .i64 16] w fun e w' => e = .returned (.string ⟨(hexL n).toArray⟩) ∧ Below w.heap.size w w' := by
  go_enter Tryd.func134, Tryd.ntmps134
  go_wp2_with (go_at_call 155; refine (bits35 n _ hn ht).mono ?_; rintro e w' ⟨rfl, hb⟩)
  go_ret
  exact ⟨rfl, hb⟩

set_option maxRecDepth 100000 in
set_option maxHeartbeats 1000000 in
theorem fmt28 (n : Nat) (w : World) (hn : n < 65536) (ht : Tab w) :
    Calls Tryd.prog 113 #[.int .i64 n, .int .i64 16] w fun e w' => e = .returned (.string ⟨(hexL n).toArray⟩) ∧ Below w.heap.size w w' := by
  go_enter Tryd.func113, Tryd.ntmps113
  go_wp2_with (go_at_call 134; refine (fmt30 n _ hn ht).mono ?_; rintro e w' ⟨rfl, hb⟩)
  go_ret
  exact ⟨rfl, hb⟩

theorem ba_append (a b : Array UInt8) : (ByteArray.mk a ++ ByteArray.mk b) = ByteArray.mk (a ++ b) := by
  apply ByteArray.ext
  simp

theorem hexT_length : ∀ (f m : Nat) (s : List UInt8), (hexT f m s).length ≤ f + s.length
  | 0, m, s => by simp [hexT]
  | f + 1, m, s => by
    rw [hexT]
    split
    · omega
    · have := hexT_length f (m / 16) (dig (m / 16 % 16) :: s)
      simp at this
      omega
theorem hexL_length (n : Nat) : (hexL n).length ≤ 4 := by
  have := hexT_length 3 n [dig (n % 16)]
  exact this

/-- a number that is a character -/
def okC (n : Nat) : Prop := n ≤ 1114111 ∧ (n < 55296 ∨ 57343 < n)

theorem encode_eq (n : Nat) (h : okC n) : Utf8.encode (n : Int) = ⟨(utf8L n).toArray⟩ := by
  have hv : Utf8.valid (n : Int) = true := by
    obtain ⟨h1, h2⟩ := h
    simp only [Utf8.valid]
    simp
    omega
  unfold Utf8.encode utf8L
  simp only [hv, if_true, Int.toNat_natCast]
  split
  · rfl
  · split
    · rfl
    · split <;> rfl

theorem ret_str {a b : ByteArray} (h : a = b) : Ending.returned (.string a) = Ending.returned (.string b) := by rw [h]

set_option maxRecDepth 100000 in
set_option maxHeartbeats 1000000 in
theorem shown21_a (n : Nat) (w : World) (hn : n < 65536) (ht : Tab w) (h60 : ((n : Int) == 60) = false) (hh : harmB n = true) :
    Calls Tryd.prog 73 #[.int .i32 n] w fun e w' => e = .returned (.string ⟨(60 :: hexL n ++ [62]).toArray⟩) ∧ Below w.heap.size w w' := by
  have hl := hexL_length n
  have F := Lib.hid (fmt28 n w hn ht)
  generalize hexL n = l at *
  go_enter Tryd.func73, Tryd.ntmps73
  go_wp2_with (first | (go_at_call 112; refine (harm27 _ _).mono ?_; rintro e w' ⟨rfl, rfl⟩) | (go_at_call 113; refine F.out.mono ?_; rintro e w' ⟨rfl, hb⟩))
  go_ret
  refine ⟨ret_str ?_, hb⟩
  rw [ba_append, ba_append]
  simp

set_option maxRecDepth 100000 in
set_option maxHeartbeats 1000000 in
theorem shown21_b (w : World) (ht : Tab w) :
    Calls Tryd.prog 73 #[.int .i32 60] w fun e w' => e = .returned (.string ⟨(60 :: hexL 60 ++ [62]).toArray⟩) ∧ Below w.heap.size w w' := by
  have hl := hexL_length 60
  have F := Lib.hid (fmt28 60 w (by omega) ht)
  generalize hexL 60 = l at *
  go_enter Tryd.func73, Tryd.ntmps73
  go_wp2_with (go_at_call 113; refine F.out.mono ?_; rintro e w' ⟨rfl, hb⟩)
  go_ret
  refine ⟨ret_str ?_, hb⟩
  rw [ba_append, ba_append]
  simp

set_option maxRecDepth 100000 in
set_option maxHeartbeats 1000000 in
theorem shown21_c (n : Nat) (w : World) (hn : okC n) (h60 : ((n : Int) == 60) = false) (hh : harmB n = false) :
    Calls Tryd.prog 73 #[.int .i32 n] w fun e w' => e = .returned (.string ⟨(utf8L n).toArray⟩) ∧ Below w.heap.size w w' := by
  have he := Lib.hid (encode_eq n hn)
  go_enter Tryd.func73, Tryd.ntmps73
  go_wp2_with (go_at_call 112; refine (harm27 _ _).mono ?_; rintro e w' ⟨rfl, rfl⟩)
  go_ret
  exact ⟨ret_str he.out, Below.refl _ _⟩

theorem harm_small {n : Nat} (h : harmB (n : Int) = true) : n < 8298 := by
  simp only [harmB, decide_eq_true_eq] at h
  omega

theorem shown21 (n : Nat) (w : World) (hn : okC n) (ht : Tab w) :
    Calls Tryd.prog 73 #[.int .i32 n] w fun e w' => e = .returned (.string ⟨(shownL n).toArray⟩) ∧ Below w.heap.size w w' := by
  unfold shownL spelt
  rw [Int.toNat_natCast]
  cases hh : harmB (n : Int)
  · by_cases h60 : n = 60
    · subst h60
      exact shown21_b w ht
    · have h6 : ((n : Int) == 60) = false := by simp; omega
      rw [h6]
      exact shown21_c n w hn h6 hh
  · have := harm_small hh
    have h6 : ((n : Int) == 60) = false := by
      simp only [beq_eq_false_iff_ne]
      intro h
      rw [h] at hh
      exact absurd hh (by decide)
    exact shown21_a n w (by omega) ht h6 hh
end Go.Proofs.YteibjmlimcpaoaaDoor.T
