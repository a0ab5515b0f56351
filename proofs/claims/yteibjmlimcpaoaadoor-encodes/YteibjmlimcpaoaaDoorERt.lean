/-
  What report.rightText answers, for every string: with text.Harmful walked and utf8.ValidString by the library's own contract. Nothing that lay in memory turns.
-/
import Derived.Test.YteibjmlimcpaoaaDoorEnc
import Derived.Test.YteibjmlimcpaoaaDoorEUtf
import Derived.Shelf.Unicode.ValidAny
import Derived.Laws.RangeString
import Derived.Laws.RangeAny
import Derived.Laws.Runes
set_option linter.unusedVariables false
set_option linter.unusedSimpArgs false
namespace Go.Proofs.YteibjmlimcpaoaaDoor
open Go.RowKit Go.Sort

/-- where this program has the library's function ValidString and what it names -/
def laysValid_ren : Go.Shelf.Ren := ⟨fun | 196 => 136 | 259 => 156 | n => n, fun | 9 => 9 | 4 => 4 | 3 => 3 | 5 => 5 | 12 => 12 | 119 => 204 | 0 => 0 | 46 => 97 | 139 => 207 | 138 => 206 | 53 => 195 | n => n, fun | 3 => 2 | 4 => 3 | n => n⟩
theorem laysValid : Go.Proofs.Lays.n196 Tryd.prog laysValid_ren := {
  mixed := by kernel_rfl
  f196 := Tryd.func136.trans (congrArg some (by kernel_rfl))
  f259 := Tryd.func156.trans (congrArg some (by kernel_rfl))
  t0 := Tryd.underlying0
  a0 := Tryd.isAgg0
  z0 := Tryd.sizeOf0
  v0 := Tryd.zeroValue0
  t3 := Tryd.underlying3
  a3 := Tryd.isAgg3
  z3 := Tryd.sizeOf3
  v3 := Tryd.zeroValue3
  t4 := Tryd.underlying4
  a4 := Tryd.isAgg4
  z4 := Tryd.sizeOf4
  v4 := Tryd.zeroValue4
  t5 := Tryd.underlying5
  a5 := Tryd.isAgg5
  z5 := Tryd.sizeOf5
  v5 := Tryd.zeroValue5
  t9 := Tryd.underlying9
  a9 := Tryd.isAgg9
  z9 := Tryd.sizeOf9
  v9 := Tryd.zeroValue9
  t12 := Tryd.underlying12
  a12 := Tryd.isAgg12
  z12 := Tryd.sizeOf12
  v12 := Tryd.zeroValue12
  t46 := Tryd.underlying97
  a46 := Tryd.isAgg97
  z46 := Tryd.sizeOf97
  v46 := Tryd.zeroValue97
  t53 := Tryd.underlying195
  a53 := Tryd.isAgg195
  z53 := Tryd.sizeOf195
  v53 := Tryd.zeroValue195
  t119 := Tryd.underlying204
  a119 := Tryd.isAgg204
  z119 := Tryd.sizeOf204
  t138 := Tryd.underlying206
  a138 := Tryd.isAgg206
  z138 := Tryd.sizeOf206
  v138 := Tryd.zeroValue206
  t139 := Tryd.underlying207
  a139 := Tryd.isAgg207
  z139 := Tryd.sizeOf207
  v139 := Tryd.zeroValue207
  g3 := by kernel_rfl
  g4 := by kernel_rfl }

/-- the library's two tables lie as they are laid -/
def Utabs (w : World) : Prop := Lib.Utf8Tabs 2 3 w
theorem Utabs.below {w w' : World} (h : Utabs w) (hb : Below w.heap.size w w') : Utabs w' := Utf8Tabs_below h hb
theorem valid80 (s : ByteArray) (w : World) (hs : s.size ≤ 9223372036854775807) (ht : Utabs w) :
    Calls Tryd.prog 136 #[.string s] w fun e w' => e = .returned (.bool (Lib.validD s.data.toList)) ∧ Below w.heap.size w w' := Any.utf8_ValidString laysValid s w (by omega) ht

set_option maxHeartbeats 400000 in
theorem harm71 (c : Int) (w : World) :
    Calls Tryd.prog 112 #[.int .i32 c] w fun e w' => e = .returned (.bool (harmB c)) ∧ w' = w := by
  go_enter Tryd.func112, Tryd.ntmps112
  go_wp2
  all_goals go_ret
  all_goals refine ⟨ret_bool ?_, rfl⟩
  all_goals try simp only [beq_iff_eq, beq_eq_false_iff_ne, ne_eq] at *
  all_goals symm
  all_goals simp only [harmB, decide_eq_true_eq, decide_eq_false_iff_not]
  all_goals omega

theorem decode_drop (s : ByteArray) (pos : Nat) : Utf8.decode s pos = Lib.decodeL (s.data.toList.drop pos) := by
  rw [Lib.decodeL_N, Lib.decode_N, List.length_drop]
  simp only [List.getD_eq_getElem?_getD, List.getElem?_drop, Nat.add_zero]

theorem below_iter {B : Nat} {a w : World} (h : Below B a w) (hB : B ≤ w.heap.size) (s : ByteArray) (p : Nat) : Below B a (w.iter s p) := h.alloc hB _

set_option maxRecDepth 100000 in
set_option maxHeartbeats 1000000 in
theorem text74_big (s : ByteArray) (w : World) (hs : 60 < s.size) (hm : s.size ≤ 9223372036854775807) :
    Calls Tryd.prog 115 #[.string s] w fun e w' => e = .returned (.bool false) ∧ Below w.heap.size w w' := by
  have hs' : (60 : Int) < (s.size : Int) := by omega
  go_enter Tryd.func115, Tryd.ntmps115
  go_wp2
  go_ret
  exact ⟨rfl, Below.refl _ _⟩

set_option maxRecDepth 100000 in
set_option maxHeartbeats 2000000 in
theorem text74_small (s : ByteArray) (w : World) (hs : s.size ≤ 60) (ht : Utabs w) (V R : Bool) (hV : Lib.validD s.data.toList = V) (hR : runesGo s.size s.data.toList = R) :
    Calls Tryd.prog 115 #[.string s] w fun e w' => e = .returned (.bool (V && R)) ∧ Below w.heap.size w w' := by
  have hs' : ¬ (60 : Int) < (s.size : Int) := by omega
  have C := Lib.hid (valid80 s w (by omega) ht)
  rw [hV] at C
  have HR := Lib.hid hR
  clear hR hV
  go_enter Tryd.func115, Tryd.ntmps115
  go_wp2_with (go_at_call 136; refine C.out.mono ?_; rintro e w1 ⟨rfl, hb1⟩; refine Hid.out ?_)
  cases V
  · refine Lib.hid ?_
    go_wp2
    go_ret
    exact ⟨rfl, hb1⟩
  refine Lib.hid ?_
  go_wp2
  go_loopw [4] (fun _ wr => ∃ (pos f : Nat), wr = w1.iter s pos ∧ s.size ≤ pos + f ∧ Hid (runesGo f (s.data.toList.drop pos) = R)) (fun _ wr => s.size - wr.iterPos w1.heap.size)
  case atStart => exact ⟨0, s.size, rfl, by omega, HR⟩
  case round =>
    obtain ⟨pos, f, rfl, hf, H⟩ := hrel
    clear HR C
    have hbi := fun p => below_iter hb1 hb1.size s p
    by_cases hp : pos < s.size
    · have hnx : ∀ ty, (Instr.next (.pointer (some ⟨w1.heap.size, 0, none⟩)) true ty).run Tryd.prog (w1.iter s pos) = _ := fun ty => run_next_any w1 s pos ty hp
      rw [decode_drop s pos] at hnx
      obtain ⟨f, rfl⟩ : ∃ f', f = f' + 1 := ⟨f - 1, by omega⟩
      have hne : s.data.toList.drop pos ≠ [] := by
        intro e
        have := congrArg List.length e
        rw [List.length_drop] at this
        simp at this
        omega
      have h1 := H.out
      rw [runesGo, if_neg hne] at h1
      have hw := Lib.decodeL_width (s.data.toList.drop pos)
      rw [List.drop_drop] at h1
      obtain ⟨c, n, hd⟩ : ∃ c n, Lib.decodeL (s.data.toList.drop pos) = (c, n) := ⟨_, _, rfl⟩
      rw [hd] at h1 hnx hw
      simp only at h1 hnx hw
      have K := Lib.hid (fun w => harm71 (c : Int) w)
      have H1 := Lib.hid h1
      clear h1 H hd hne
      cases hh : harmB (c : Int)
      · rw [hh] at K H1
        have h2 := H1.out
        simp only [Bool.false_eq_true, if_false] at h2
        have H2 := Lib.hid h2
        clear hh H1 h2
        go_wp2_with (go_at_call 112; refine (K.out _).mono ?_; rintro e w9 ⟨rfl, rfl⟩)
        go_roundw
        case rel => exact ⟨pos + n, f, rfl, by omega, H2⟩
        case measure => simp; omega
      · rw [hh] at K H1
        have h2 := H1.out
        simp only [if_true] at h2
        subst h2
        clear hh H1
        go_wp2_with (go_at_call 112; refine (K.out _).mono ?_; rintro e w9 ⟨rfl, rfl⟩)
        go_ret
        exact ⟨rfl, hbi _⟩
    · have hnx : ∀ ty, (Instr.next (.pointer (some ⟨w1.heap.size, 0, none⟩)) true ty).run Tryd.prog (w1.iter s pos) = _ := fun ty => run_next_end w1 s pos ty hp
      have h1 := H.out
      rw [List.drop_eq_nil_of_le (by simp; omega)] at h1
      have h2 : R = true := by
        rw [← h1]
        cases f with
        | zero => rfl
        | succ f => simp [runesGo]
      subst h2
      clear h1 H
      go_wp2
      go_ret
      exact ⟨rfl, hbi _⟩

theorem text74 (s : ByteArray) (w : World) (hm : s.size ≤ 9223372036854775807) (ht : Utabs w) :
    Calls Tryd.prog 115 #[.string s] w fun e w' => e = .returned (.bool (properB s.data.toList)) ∧ Below w.heap.size w w' := by
  rw [properB_eq]
  have hl : s.data.toList.length = s.size := by simp
  rw [hl]
  by_cases h : 60 < s.size
  · rw [if_pos h]
    exact text74_big s w h hm
  · rw [if_neg h]
    exact text74_small s w (by omega) ht _ _ rfl rfl
end Go.Proofs.YteibjmlimcpaoaaDoor
