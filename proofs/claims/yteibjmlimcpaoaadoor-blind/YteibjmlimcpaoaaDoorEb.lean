/-
  What report.rightText answers, for every string: with text.Harmful walked and utf8.ValidString by the library's own contract. Nothing that lay in memory turns.
  What report.within, rightTables, rightNames answer, for every number and every list wherever it lies; nothing that lay in memory turns.
  What report.rightNames answers, for every list of names wherever it lies; nothing that lay in memory turns.
  What report.right answers, for every report wherever its lists lie; nothing that lay in memory turns.
  What report.Encode and visor.Encode answer, for every report wherever its lists lie: what the document's answer is; nothing that lay in memory turns.
-/
import Derived.Test.YteibjmlimcpaoaaDoorEa
import Derived.Shelf.Unicode.ValidAny
import Derived.Laws.RangeString
import Derived.Laws.RangeAny
import Derived.Laws.Runes
import Derived.Test.YteibjmlimcpaoaaDoorEl
set_option linter.unusedVariables false
set_option linter.unusedSimpArgs false
namespace Go.Proofs.YteibjmlimcpaoaaDoor
open Go.RowKit Go.Sort

/-- where this program has the library's function ValidString and what it names -/
def laysValid_ren : Go.Shelf.Ren := ⟨fun | 196 => 136 | 259 => 156 | n => n, fun | 9 => 9 | 4 => 4 | 3 => 3 | 5 => 5 | 12 => 12 | 119 => 204 | 0 => 0 | 46 => 97 | 139 => 207 | 138 => 206 | 53 => 195 | n => n, fun | 3 => 2 | 4 => 3 | n => n⟩
theorem laysValid : Go.Proofs.Lays.n196 Tryd.prog laysValid_ren := {
  mixed := by kernel_rfl
  f196 := Tryd.func136.trans (congrArg some (by kernel_rfl))
  f259 := Tryd.func156.trans (congrArg some (by kernel_rfl))
  t0 := Tryd.underlying0
  a0 := Tryd.isAgg0
  z0 := Tryd.sizeOf0
  v0 := Tryd.zeroValue0
  t3 := Tryd.underlying3
  a3 := Tryd.isAgg3
  z3 := Tryd.sizeOf3
  v3 := Tryd.zeroValue3
  t4 := Tryd.underlying4
  a4 := Tryd.isAgg4
  z4 := Tryd.sizeOf4
  v4 := Tryd.zeroValue4
  t5 := Tryd.underlying5
  a5 := Tryd.isAgg5
  z5 := Tryd.sizeOf5
  v5 := Tryd.zeroValue5
  t9 := Tryd.underlying9
  a9 := Tryd.isAgg9
  z9 := Tryd.sizeOf9
  v9 := Tryd.zeroValue9
  t12 := Tryd.underlying12
  a12 := Tryd.isAgg12
  z12 := Tryd.sizeOf12
  v12 := Tryd.zeroValue12
  t46 := Tryd.underlying97
  a46 := Tryd.isAgg97
  z46 := Tryd.sizeOf97
  v46 := Tryd.zeroValue97
  t53 := Tryd.underlying195
  a53 := Tryd.isAgg195
  z53 := Tryd.sizeOf195
  v53 := Tryd.zeroValue195
  t119 := Tryd.underlying204
  a119 := Tryd.isAgg204
  z119 := Tryd.sizeOf204
  t138 := Tryd.underlying206
  a138 := Tryd.isAgg206
  z138 := Tryd.sizeOf206
  v138 := Tryd.zeroValue206
  t139 := Tryd.underlying207
  a139 := Tryd.isAgg207
  z139 := Tryd.sizeOf207
  v139 := Tryd.zeroValue207
  g3 := by kernel_rfl
  g4 := by kernel_rfl }

/-- the library's two tables lie as they are laid -/
def Utabs (w : World) : Prop := Lib.Utf8Tabs 2 3 w
theorem Utabs.below {w w' : World} (h : Utabs w) (hb : Below w.heap.size w w') : Utabs w' := Utf8Tabs_below h hb
theorem valid80 (s : ByteArray) (w : World) (hs : s.size ≤ 9223372036854775807) (ht : Utabs w) :
    Calls Tryd.prog 136 #[.string s] w fun e w' => e = .returned (.bool (Lib.validD s.data.toList)) ∧ Below w.heap.size w w' := Any.utf8_ValidString laysValid s w (by omega) ht

set_option maxHeartbeats 400000 in
theorem harm71 (c : Int) (w : World) :
    Calls Tryd.prog 112 #[.int .i32 c] w fun e w' => e = .returned (.bool (harmB c)) ∧ w' = w := by
  go_enter Tryd.func112, Tryd.ntmps112
  go_wp2
  all_goals go_ret
  all_goals refine ⟨ret_bool ?_, rfl⟩
  all_goals try simp only [beq_iff_eq, beq_eq_false_iff_ne, ne_eq] at *
  all_goals symm
  all_goals simp only [harmB, decide_eq_true_eq, decide_eq_false_iff_not]
  all_goals omega

theorem decode_drop (s : ByteArray) (pos : Nat) : Utf8.decode s pos = Lib.decodeL (s.data.toList.drop pos) := by
  rw [Lib.decodeL_N, Lib.decode_N, List.length_drop]
  simp only [List.getD_eq_getElem?_getD, List.getElem?_drop, Nat.add_zero]

theorem below_iter {B : Nat} {a w : World} (h : Below B a w) (hB : B ≤ w.heap.size) (s : ByteArray) (p : Nat) : Below B a (w.iter s p) := h.alloc hB _

set_option maxRecDepth 100000 in
set_option maxHeartbeats 1000000 in
theorem text74_big (s : ByteArray) (w : World) (hs : 60 < s.size) (hm : s.size ≤ 9223372036854775807) :
    Calls Tryd.prog 115 #[.string s] w fun e w' => e = .returned (.bool false) ∧ Below w.heap.size w w' := by
  have hs' : (60 : Int) < (s.size : Int) := by omega
  go_enter Tryd.func115, Tryd.ntmps115
  go_wp2
  go_ret
  exact ⟨rfl, Below.refl _ _⟩

set_option maxRecDepth 100000 in
set_option maxHeartbeats 2000000 in
theorem text74_small (s : ByteArray) (w : World) (hs : s.size ≤ 60) (ht : Utabs w) (V R : Bool) (hV : Lib.validD s.data.toList = V) (hR : runesGo s.size s.data.toList = R) :
    Calls Tryd.prog 115 #[.string s] w fun e w' => e = .returned (.bool (V && R)) ∧ Below w.heap.size w w' := by
  have hs' : ¬ (60 : Int) < (s.size : Int) := by omega
  have C := Lib.hid (valid80 s w (by omega) ht)
  rw [hV] at C
  have HR := Lib.hid hR
  clear hR hV
  go_enter Tryd.func115, Tryd.ntmps115
  go_wp2_with (go_at_call 136; refine C.out.mono ?_; rintro e w1 ⟨rfl, hb1⟩; refine Hid.out ?_)
  cases V
  · refine Lib.hid ?_
    go_wp2
    go_ret
    exact ⟨rfl, hb1⟩
  refine Lib.hid ?_
  go_wp2
  go_loopw [4] (fun _ wr => ∃ (pos f : Nat), wr = w1.iter s pos ∧ s.size ≤ pos + f ∧ Hid (runesGo f (s.data.toList.drop pos) = R)) (fun _ wr => s.size - wr.iterPos w1.heap.size)
  case atStart => exact ⟨0, s.size, rfl, by omega, HR⟩
  case round =>
    obtain ⟨pos, f, rfl, hf, H⟩ := hrel
    clear HR C
    have hbi := fun p => below_iter hb1 hb1.size s p
    by_cases hp : pos < s.size
    · have hnx : ∀ ty, (Instr.next (.pointer (some ⟨w1.heap.size, 0, none⟩)) true ty).run Tryd.prog (w1.iter s pos) = _ := fun ty => run_next_any w1 s pos ty hp
      rw [decode_drop s pos] at hnx
      obtain ⟨f, rfl⟩ : ∃ f', f = f' + 1 := ⟨f - 1, by omega⟩
      have hne : s.data.toList.drop pos ≠ [] := by
        intro e
        have := congrArg List.length e
        rw [List.length_drop] at this
        simp at this
        omega
      have h1 := H.out
      rw [runesGo, if_neg hne] at h1
      have hw := Lib.decodeL_width (s.data.toList.drop pos)
      rw [List.drop_drop] at h1
      obtain ⟨c, n, hd⟩ : ∃ c n, Lib.decodeL (s.data.toList.drop pos) = (c, n) := ⟨_, _, rfl⟩
      rw [hd] at h1 hnx hw
      simp only at h1 hnx hw
      have K := Lib.hid (fun w => harm71 (c : Int) w)
      have H1 := Lib.hid h1
      clear h1 H hd hne
      cases hh : harmB (c : Int)
      · rw [hh] at K H1
        have h2 := H1.out
        simp only [Bool.false_eq_true, if_false] at h2
        have H2 := Lib.hid h2
        clear hh H1 h2
        go_wp2_with (go_at_call 112; refine (K.out _).mono ?_; rintro e w9 ⟨rfl, rfl⟩)
        go_roundw
        case rel => exact ⟨pos + n, f, rfl, by omega, H2⟩
        case measure => simp; omega
      · rw [hh] at K H1
        have h2 := H1.out
        simp only [if_true] at h2
        subst h2
        clear hh H1
        go_wp2_with (go_at_call 112; refine (K.out _).mono ?_; rintro e w9 ⟨rfl, rfl⟩)
        go_ret
        exact ⟨rfl, hbi _⟩
    · have hnx : ∀ ty, (Instr.next (.pointer (some ⟨w1.heap.size, 0, none⟩)) true ty).run Tryd.prog (w1.iter s pos) = _ := fun ty => run_next_end w1 s pos ty hp
      have h1 := H.out
      rw [List.drop_eq_nil_of_le (by simp; omega)] at h1
      have h2 : R = true := by
        rw [← h1]
        cases f with
        | zero => rfl
        | succ f => simp [runesGo]
      subst h2
      clear h1 H
      go_wp2
      go_ret
      exact ⟨rfl, hbi _⟩

theorem text74 (s : ByteArray) (w : World) (hm : s.size ≤ 9223372036854775807) (ht : Utabs w) :
    Calls Tryd.prog 115 #[.string s] w fun e w' => e = .returned (.bool (properB s.data.toList)) ∧ Below w.heap.size w w' := by
  rw [properB_eq]
  have hl : s.data.toList.length = s.size := by simp
  rw [hl]
  by_cases h : 60 < s.size
  · rw [if_pos h]
    exact text74_big s w h hm
  · rw [if_neg h]
    exact text74_small s w (by omega) ht _ _ rfl rfl
end Go.Proofs.YteibjmlimcpaoaaDoor

set_option linter.unusedVariables false
set_option linter.unusedSimpArgs false
namespace Go.Proofs.YteibjmlimcpaoaaDoor
open Go.RowKit Go.Sort

def icells (l : List Int) : List Value := l.map (.int .i64)

set_option maxRecDepth 100000 in
set_option maxHeartbeats 1000000 in
theorem within56 (most : Int) (l : List Int) (v : Value) (w : World) (r : Bool) (hl : l.length ≤ 9223372036854775807) (hv : RowIs w v l.length (icells l)) (hr : l.all (toB most) = r) :
    Calls Tryd.prog 79 #[.int .i64 most, v] w fun e w' => e = .returned (.bool r) ∧ w' = w := by
  have HR := Lib.hid hr
  clear hr
  obtain ⟨ao, cap, rfl, hcell⟩ := hv
  go_enter Tryd.func79, Tryd.ntmps79
  go_wp2
  go_loopw [9] (fun is wr => ∃ (k : Nat), is = .int .i64 k ∧ k ≤ l.length ∧ wr = w ∧ Hid ((l.drop k).all (toB most) = r)) (fun is _ => l.length - (intOf is).toNat)
  case atStart => exact ⟨0, rfl, Nat.zero_le _, rfl, HR⟩
  case round =>
    obtain ⟨k, rfl, hk, rfl, H⟩ := hrel
    clear HR
    by_cases hlt : k < l.length
    · obtain ⟨g, o, rfl, hcl⟩ := hcell (by omega)
      obtain ⟨x, hx⟩ : ∃ x, l[k]? = some x := ⟨_, List.getElem?_eq_getElem hlt⟩
      have c0 := hcl k (.int .i64 x) (by simp [icells, hx])
      have hdr : l.drop k = x :: l.drop (k + 1) := by
        rw [List.drop_eq_getElem_cons hlt]
        congr 1
        exact Option.some.inj ((List.getElem?_eq_getElem hlt).symm.trans hx)
      have h1 := H.out
      rw [hdr, List.all_cons] at h1
      clear hcl hcell hdr H hx
      cases hb : toB most x
      · rw [hb] at h1
        simp only [Bool.false_and] at h1
        have hb2 : x < 0 ∨ most < x := by
          have := of_decide_eq_false hb
          omega
        have H1 := Lib.hid h1
        clear h1 hb
        by_cases hx0 : x < 0
        · go_wp2
          go_ret
          exact ⟨ret_bool H1.out, rfl⟩
        · have hx1 : most < x := by omega
          go_wp2
          go_ret
          exact ⟨ret_bool H1.out, rfl⟩
      · rw [hb] at h1
        simp only [Bool.true_and] at h1
        obtain ⟨x0, x1⟩ := of_decide_eq_true hb
        have H1 := Lib.hid h1
        clear h1 hb
        have x0' : ¬ x < 0 := by omega
        have x1' : ¬ most < x := by omega
        go_wp2
        refine ⟨⟨k + 1, by go_num, by omega, by first | rfl | trivial, H1⟩, by simp [intOf]; omega⟩
    · have h2 := H.out
      rw [List.drop_eq_nil_of_le (by omega)] at h2
      have H2 := Lib.hid h2
      clear h2 H
      have hge : ¬ ((k : Int) < (l.length : Int)) := by omega
      go_wp2
      go_ret
      exact ⟨ret_bool H2.out, rfl⟩

theorem newCell (w : World) (x : Value) (T : TypeId) (g : Nat) (hg : g = w.heap.size) : (w.alloc (.cells #[x] T)).cell? ⟨g, 0, none⟩ = some x := by
  subst hg
  rw [World.cell?_alloc_new]
  rfl
theorem one_row {w : World} {g : Nat} {x : Int} (h : w.cell? ⟨g, 0, none⟩ = some (.int .i64 x)) : RowIs w (.slice (some ⟨g, 0, none⟩) 1 1) [x].length (icells [x]) := by
  refine ⟨_, _, rfl, fun _ => ⟨g, 0, rfl, fun j u hj => ?_⟩⟩
  cases j with
  | zero =>
    simp [icells] at hj
    subst hj
    exact h
  | succ j => simp [icells] at hj

set_option maxRecDepth 100000 in
set_option maxHeartbeats 1000000 in
theorem tables57_small (v : Value) (l : List Tab) (w : World) (hl : l.length ≤ 16) (hv : RowIs w v l.length (tcells l)) (r : Bool) (hr : l.all tabOk = r) :
    Calls Tryd.prog 80 #[v] w fun e w' => e = .returned (.bool r) ∧ Below w.heap.size w w' := by
  have hl' : ¬ (16 : Int) < (l.length : Int) := by omega
  have HR := Lib.hid hr
  have HV := Lib.hid hv
  clear hr
  obtain ⟨ao, cap, rfl, hcell⟩ := hv
  clear hcell
  have W := Lib.hid (fun most x (w : World) g (h : w.cell? ⟨g, 0, none⟩ = some (.int .i64 x)) => within56 most [x] (.slice (some ⟨g, 0, none⟩) 1 1) w _ (by simp) (one_row h) rfl)
  go_enter Tryd.func80, Tryd.ntmps80
  go_wp2
  go_loopw [10] (fun is wr => ∃ (k : Nat), is = .int .i64 k ∧ k ≤ l.length ∧ Below w.heap.size w wr ∧ Hid ((l.drop k).all tabOk = r)) (fun is _ => l.length - (intOf is).toNat)
  case atStart => exact ⟨0, rfl, Nat.zero_le _, Below.refl _ _, HR⟩
  case round =>
    obtain ⟨k, rfl, hk, hbw, H⟩ := hrel
    clear HR
    by_cases hlt : k < l.length
    · obtain ⟨_, _, hao, hcell⟩ := HV.out.on hbw
      cases hao
      obtain ⟨g, o, rfl, hcl⟩ := hcell (by omega)
      obtain ⟨⟨tag, st, sz⟩, hx⟩ : ∃ x, l[k]? = some x := ⟨_, List.getElem?_eq_getElem hlt⟩
      obtain ⟨t0, t1, t2⟩ := tcells_at l k _ hx
      have c0 := hcl _ _ t0
      have c1 := hcl _ _ t1
      have c2 := hcl _ _ t2
      simp only at c0 c1 c2
      rw [← Nat.add_assoc] at c1 c2
      have hdr : l.drop k = ⟨tag, st, sz⟩ :: l.drop (k + 1) := by
        rw [List.drop_eq_getElem_cons hlt]
        congr 1
        exact Option.some.inj ((List.getElem?_eq_getElem hlt).symm.trans hx)
      have h1 := H.out
      rw [hdr, List.all_cons] at h1
      clear hcell hcl t0 t1 t2 hdr H hx
      have b1 : Below w.heap.size w (wr.alloc (.cells #[.string tag, .int .i64 st, .int .i64 sz] 77)) := hbw.alloc hbw.size _
      have hsz := hbw.size
      by_cases q1 : tag.size = 4
      · have q1' : ((tag.size : Int) != 4) = false := by simp only [bne_eq_false_iff_eq]; omega
        have W4 := Lib.hid (W.out 4 st ((wr.alloc (.cells #[.string tag, .int .i64 st, .int .i64 sz] 77)).alloc (.cells #[.int .i64 st] 3)) (wr.heap.size + 1) (newCell _ _ _ _ (by simp)))
        have b2 : Below w.heap.size w ((wr.alloc (.cells #[.string tag, .int .i64 st, .int .i64 sz] 77)).alloc (.cells #[.int .i64 st] 3)) := b1.alloc b1.size _
        cases q2 : toB 4 st
        · have hok : tabOk ⟨tag, st, sz⟩ = false := by simp [tabOk, q2]
          rw [hok] at h1
          simp only [Bool.false_and] at h1
          have H1 := Lib.hid h1
          rw [show [st].all (toB 4) = false by simp [q2]] at W4
          clear h1 hok q2
          go_wp2_with (go_at_call 79; refine W4.out.mono ?_; rintro e w4 ⟨rfl, rfl⟩)
          go_ret
          exact ⟨ret_bool H1.out, b2⟩
        · rw [show [st].all (toB 4) = true by simp [q2]] at W4
          have W5 := Lib.hid (W.out 2000 sz (((wr.alloc (.cells #[.string tag, .int .i64 st, .int .i64 sz] 77)).alloc (.cells #[.int .i64 st] 3)).alloc (.cells #[.int .i64 sz] 3)) (wr.heap.size + 2) (newCell _ _ _ _ (by simp)))
          have b3 : Below w.heap.size w (((wr.alloc (.cells #[.string tag, .int .i64 st, .int .i64 sz] 77)).alloc (.cells #[.int .i64 st] 3)).alloc (.cells #[.int .i64 sz] 3)) := b2.alloc b2.size _
          cases q3 : toB 2000 sz
          · have hok : tabOk ⟨tag, st, sz⟩ = false := by simp [tabOk, q3]
            rw [hok] at h1
            simp only [Bool.false_and] at h1
            have H1 := Lib.hid h1
            rw [show [sz].all (toB 2000) = false by simp [q3]] at W5
            clear h1 hok q2 q3
            go_wp2_with (go_at_call 79; refine W4.out.mono ?_; rintro e w4 ⟨rfl, rfl⟩; refine Hid.out ?_)
            refine Lib.hid ?_
            go_wp2_with (go_at_call 79; refine W5.out.mono ?_; rintro e w5 ⟨rfl, rfl⟩)
            go_ret
            exact ⟨ret_bool H1.out, b3⟩
          · have hok : tabOk ⟨tag, st, sz⟩ = true := by simp [tabOk, q1, q2, q3]
            rw [hok] at h1
            simp only [Bool.true_and] at h1
            have H1 := Lib.hid h1
            rw [show [sz].all (toB 2000) = true by simp [q3]] at W5
            clear h1 hok q2 q3
            go_wp2_with (go_at_call 79; refine W4.out.mono ?_; rintro e w4 ⟨rfl, rfl⟩; refine Hid.out ?_)
            refine Lib.hid ?_
            go_wp2_with (go_at_call 79; refine W5.out.mono ?_; rintro e w5 ⟨rfl, rfl⟩)
            refine ⟨⟨k + 1, by go_num, by omega, b3, H1⟩, by simp [intOf]; omega⟩
      · have q1' : ((tag.size : Int) != 4) = true := by simp only [bne_iff_ne]; omega
        have hok : tabOk ⟨tag, st, sz⟩ = false := by simp [tabOk, q1]
        rw [hok] at h1
        simp only [Bool.false_and] at h1
        have H1 := Lib.hid h1
        clear h1 hok
        go_wp2
        go_ret
        exact ⟨ret_bool H1.out, b1⟩
    · have h2 := H.out
      rw [List.drop_eq_nil_of_le (by omega)] at h2
      have H2 := Lib.hid h2
      clear h2 H
      have hge : ¬ ((k : Int) < (l.length : Int)) := by omega
      go_wp2
      go_ret
      exact ⟨ret_bool H2.out, hbw⟩
end Go.Proofs.YteibjmlimcpaoaaDoor

set_option linter.unusedVariables false
set_option linter.unusedSimpArgs false
namespace Go.Proofs.YteibjmlimcpaoaaDoor
open Go.RowKit Go.Sort

theorem new_row (w : World) (l : List Int) (g : Nat) (cs : Array Value) (hg : g = w.heap.size) (hcs : cs.toList = icells l) : RowIs (w.alloc (.cells cs 3)) (.slice (some ⟨g, 0, none⟩) l.length l.length) l.length (icells l) := by
  subst hg
  refine ⟨_, _, rfl, fun _ => ⟨_, 0, rfl, fun j u hj => ?_⟩⟩
  rw [Nat.zero_add, World.cell?_alloc_new, ← Array.getElem?_toList, hcs]
  exact hj
theorem withinN (most : Int) (l : List Int) (w : World) (g : Nat) (cs : Array Value) (n : Nat) (hg : g = w.heap.size) (hcs : cs.toList = icells l) (hn : n = l.length) (hm : n ≤ 16) (r : Bool) (hr : l.all (toB most) = r) :
    Calls Tryd.prog 79 #[.int .i64 most, .slice (some ⟨g, 0, none⟩) n n] (w.alloc (.cells cs 3)) fun e w' => e = .returned (.bool r) ∧ w' = w.alloc (.cells cs 3) := by
  subst hn
  exact within56 most l _ _ r (by omega) (new_row w l g cs hg hcs) hr

set_option maxRecDepth 100000 in
set_option maxHeartbeats 2000000 in
theorem names58_small (v : Value) (l : List Nm) (w : World) (hl : l.length ≤ 20) (htx : ∀ x ∈ l, x.tx.size ≤ 9223372036854775807) (hv : RowIs w v l.length (ncells l)) (hu : Utabs w) (r : Bool) (hr : l.all nmOk = r) :
    Calls Tryd.prog 81 #[v] w fun e w' => e = .returned (.bool r) ∧ Below w.heap.size w w' := by
  have hl' : ¬ (20 : Int) < (l.length : Int) := by omega
  have HR := Lib.hid hr
  have HV := Lib.hid hv
  have HU := Lib.hid hu
  clear hr hu
  obtain ⟨ao, cap, rfl, hcell⟩ := hv
  clear hcell
  go_enter Tryd.func81, Tryd.ntmps81
  go_wp2
  go_loopw [10] (fun is wr => ∃ (k : Nat), is = .int .i64 k ∧ k ≤ l.length ∧ Below w.heap.size w wr ∧ Hid ((l.drop k).all nmOk = r)) (fun is _ => l.length - (intOf is).toNat)
  case atStart => exact ⟨0, rfl, Nat.zero_le _, Below.refl _ _, HR⟩
  case round =>
    obtain ⟨k, rfl, hk, hbw, H⟩ := hrel
    clear HR
    by_cases hlt : k < l.length
    · obtain ⟨_, _, hao, hcell⟩ := HV.out.on hbw
      cases hao
      obtain ⟨g, o, rfl, hcl⟩ := hcell (by omega)
      obtain ⟨⟨pl, en, la, id, st, ms, tx⟩, hx⟩ : ∃ x, l[k]? = some x := ⟨_, List.getElem?_eq_getElem hlt⟩
      obtain ⟨t0, t1, t2, t3, t4, t5, t6⟩ := ncells_at l k _ hx
      have c0 := hcl _ _ t0
      have c1 := hcl _ _ t1
      have c2 := hcl _ _ t2
      have c3 := hcl _ _ t3
      have c4 := hcl _ _ t4
      have c5 := hcl _ _ t5
      have c6 := hcl _ _ t6
      simp only at c0 c1 c2 c3 c4 c5 c6
      rw [← Nat.add_assoc] at c1 c2 c3 c4 c5 c6
      have htx1 := htx _ (List.mem_of_getElem? hx)
      simp only at htx1
      have hdr : l.drop k = ⟨pl, en, la, id, st, ms, tx⟩ :: l.drop (k + 1) := by
        rw [List.drop_eq_getElem_cons hlt]
        congr 1
        exact Option.some.inj ((List.getElem?_eq_getElem hlt).symm.trans hx)
      have h1 := H.out
      rw [hdr, List.all_cons] at h1
      clear hcell hcl t0 t1 t2 t3 t4 t5 t6 hdr H hx
      have hnm : nmOk ⟨pl, en, la, id, st, ms, tx⟩ = ([pl, en, la, id].all (toB 65535) && [st].all (toB 8) && [ms].all (toB 7) && properB tx.data.toList) := by
        simp [nmOk, Bool.and_assoc]
      rw [hnm] at h1
      clear hnm
      have b1 : Below w.heap.size w (wr.alloc (.cells #[.int .i64 pl, .int .i64 en, .int .i64 la, .int .i64 id, .int .i64 st, .int .i64 ms, .string tx] 79)) := hbw.alloc hbw.size _
      have b2 : Below w.heap.size w ((wr.alloc (.cells #[.int .i64 pl, .int .i64 en, .int .i64 la, .int .i64 id, .int .i64 st, .int .i64 ms, .string tx] 79)).alloc (.cells #[.int .i64 pl, .int .i64 en, .int .i64 la, .int .i64 id] 3)) := b1.alloc b1.size _
      have b3 : Below w.heap.size w (((wr.alloc (.cells #[.int .i64 pl, .int .i64 en, .int .i64 la, .int .i64 id, .int .i64 st, .int .i64 ms, .string tx] 79)).alloc (.cells #[.int .i64 pl, .int .i64 en, .int .i64 la, .int .i64 id] 3)).alloc (.cells #[.int .i64 st] 3)) := b2.alloc b2.size _
      have b4 : Below w.heap.size w ((((wr.alloc (.cells #[.int .i64 pl, .int .i64 en, .int .i64 la, .int .i64 id, .int .i64 st, .int .i64 ms, .string tx] 79)).alloc (.cells #[.int .i64 pl, .int .i64 en, .int .i64 la, .int .i64 id] 3)).alloc (.cells #[.int .i64 st] 3)).alloc (.cells #[.int .i64 ms] 3)) := b3.alloc b3.size _
      have W1 := Lib.hid (withinN 65535 [pl, en, la, id] (wr.alloc (.cells #[.int .i64 pl, .int .i64 en, .int .i64 la, .int .i64 id, .int .i64 st, .int .i64 ms, .string tx] 79)) (wr.heap.size + 1) #[.int .i64 pl, .int .i64 en, .int .i64 la, .int .i64 id] 4 (by simp) rfl rfl (by decide) _ rfl)
      have W2 := Lib.hid (withinN 8 [st] ((wr.alloc (.cells #[.int .i64 pl, .int .i64 en, .int .i64 la, .int .i64 id, .int .i64 st, .int .i64 ms, .string tx] 79)).alloc (.cells #[.int .i64 pl, .int .i64 en, .int .i64 la, .int .i64 id] 3)) (wr.heap.size + 2) #[.int .i64 st] 1 (by simp) rfl rfl (by decide) _ rfl)
      have W3 := Lib.hid (withinN 7 [ms] (((wr.alloc (.cells #[.int .i64 pl, .int .i64 en, .int .i64 la, .int .i64 id, .int .i64 st, .int .i64 ms, .string tx] 79)).alloc (.cells #[.int .i64 pl, .int .i64 en, .int .i64 la, .int .i64 id] 3)).alloc (.cells #[.int .i64 st] 3)) (wr.heap.size + 3) #[.int .i64 ms] 1 (by simp) rfl rfl (by decide) _ rfl)
      have W4 := Lib.hid (text74 tx _ htx1 (HU.out.below b4))
      have H1 := Lib.hid h1
      clear h1
      generalize [pl, en, la, id].all (toB 65535) = r1 at *
      generalize [st].all (toB 8) = r2 at *
      generalize [ms].all (toB 7) = r3 at *
      generalize properB tx.data.toList = r4 at *
      cases r1
      · have h2 := H1.out
        simp only [Bool.false_and] at h2
        have H2 := Lib.hid h2
        clear h2 H1
        go_wp2_with (go_at_call 79; refine W1.out.mono ?_; rintro e w4 ⟨rfl, rfl⟩)
        go_ret
        exact ⟨ret_bool H2.out, b2⟩
      cases r2
      · have h2 := H1.out
        simp only [Bool.false_and, Bool.and_false] at h2
        have H2 := Lib.hid h2
        clear h2 H1
        go_wp2_with (go_at_call 79; refine W1.out.mono ?_; rintro e w4 ⟨rfl, rfl⟩; refine Hid.out ?_)
        refine Lib.hid ?_
        go_wp2_with (go_at_call 79; refine W2.out.mono ?_; rintro e w4 ⟨rfl, rfl⟩)
        go_ret
        exact ⟨ret_bool H2.out, b3⟩
      cases r3
      · have h2 := H1.out
        simp only [Bool.false_and, Bool.and_false] at h2
        have H2 := Lib.hid h2
        clear h2 H1
        go_wp2_with (go_at_call 79; refine W1.out.mono ?_; rintro e w4 ⟨rfl, rfl⟩; refine Hid.out ?_)
        refine Lib.hid ?_
        go_wp2_with (go_at_call 79; refine W2.out.mono ?_; rintro e w4 ⟨rfl, rfl⟩; refine Hid.out ?_)
        refine Lib.hid ?_
        go_wp2_with (go_at_call 79; refine W3.out.mono ?_; rintro e w4 ⟨rfl, rfl⟩)
        go_ret
        exact ⟨ret_bool H2.out, b4⟩
      cases r4
      · have h2 := H1.out
        simp only [Bool.false_and, Bool.and_false] at h2
        have H2 := Lib.hid h2
        clear h2 H1
        go_wp2_with (go_at_call 79; refine W1.out.mono ?_; rintro e w4 ⟨rfl, rfl⟩; refine Hid.out ?_)
        refine Lib.hid ?_
        go_wp2_with (go_at_call 79; refine W2.out.mono ?_; rintro e w4 ⟨rfl, rfl⟩; refine Hid.out ?_)
        refine Lib.hid ?_
        go_wp2_with (go_at_call 79; refine W3.out.mono ?_; rintro e w4 ⟨rfl, rfl⟩; refine Hid.out ?_)
        refine Lib.hid ?_
        go_wp2_with (go_at_call 115; refine W4.out.mono ?_; rintro e w5 ⟨rfl, b5⟩)
        go_ret
        exact ⟨ret_bool H2.out, b4.trans (b5.mono b4.size)⟩
      · have h2 := H1.out
        simp only [Bool.true_and, Bool.and_true] at h2
        have H2 := Lib.hid h2
        clear h2 H1
        go_wp2_with (go_at_call 79; refine W1.out.mono ?_; rintro e w4 ⟨rfl, rfl⟩; refine Hid.out ?_)
        refine Lib.hid ?_
        go_wp2_with (go_at_call 79; refine W2.out.mono ?_; rintro e w4 ⟨rfl, rfl⟩; refine Hid.out ?_)
        refine Lib.hid ?_
        go_wp2_with (go_at_call 79; refine W3.out.mono ?_; rintro e w4 ⟨rfl, rfl⟩; refine Hid.out ?_)
        refine Lib.hid ?_
        go_wp2_with (go_at_call 115; refine W4.out.mono ?_; rintro e w5 ⟨rfl, b5⟩)
        have b6 := b4.trans (b5.mono b4.size)
        refine ⟨⟨k + 1, by go_num, by omega, b6, H2⟩, by simp [intOf]; omega⟩
    · have h2 := H.out
      rw [List.drop_eq_nil_of_le (by omega)] at h2
      have H2 := Lib.hid h2
      clear h2 H
      have hge : ¬ ((k : Int) < (l.length : Int)) := by omega
      go_wp2
      go_ret
      exact ⟨ret_bool H2.out, hbw⟩

set_option maxRecDepth 100000 in
theorem tables57 (v : Value) (l : List Tab) (w : World) (hm : l.length ≤ 9223372036854775807) (hv : RowIs w v l.length (tcells l)) :
    Calls Tryd.prog 80 #[v] w fun e w' => e = .returned (.bool (decide (l.length ≤ 16) && l.all tabOk)) ∧ Below w.heap.size w w' := by
  by_cases h : l.length ≤ 16
  · rw [decide_eq_true h, Bool.true_and]
    exact tables57_small v l w h hv _ rfl
  · rw [decide_eq_false h, Bool.false_and]
    obtain ⟨ao, cap, rfl, _⟩ := hv
    have hb' : (16 : Int) < (l.length : Int) := by omega
    go_enter Tryd.func80, Tryd.ntmps80
    go_wp2
    go_ret
    exact ⟨rfl, Below.refl _ _⟩
set_option maxRecDepth 100000 in
theorem names58 (v : Value) (l : List Nm) (w : World) (hm : l.length ≤ 9223372036854775807) (htx : ∀ x ∈ l, x.tx.size ≤ 9223372036854775807) (hv : RowIs w v l.length (ncells l)) (hu : Utabs w) :
    Calls Tryd.prog 81 #[v] w fun e w' => e = .returned (.bool (decide (l.length ≤ 20) && l.all nmOk)) ∧ Below w.heap.size w w' := by
  by_cases h : l.length ≤ 20
  · rw [decide_eq_true h, Bool.true_and]
    exact names58_small v l w h htx hv hu _ rfl
  · rw [decide_eq_false h, Bool.false_and]
    obtain ⟨ao, cap, rfl, _⟩ := hv
    have hb' : (20 : Int) < (l.length : Int) := by omega
    go_enter Tryd.func81, Tryd.ntmps81
    go_wp2
    go_ret
    exact ⟨rfl, Below.refl _ _⟩
end Go.Proofs.YteibjmlimcpaoaaDoor

set_option linter.unusedVariables false
set_option linter.unusedSimpArgs false
namespace Go.Proofs.YteibjmlimcpaoaaDoor
open Go.RowKit Go.Sort

theorem belowAt {w w' : World} {k : Nat} {o : Obj} (hb : Below w.heap.size w w') (h : w.heap[k]? = some o) : w'.heap[k]? = some o := by
  rw [hb.block k (Array.getElem?_eq_some_iff.1 h).1]
  exact h
theorem allocOld {w : World} {k : Nat} {o o' : Obj} (h : w.heap[k]? = some o) : (w.alloc o').heap[k]? = some o :=
  (Lib.alloc_old w o' k (Array.getElem?_eq_some_iff.1 h).1).trans h

def rightB (kind hs hf hu rs rv rb nm cs cf cc : Int) (lt : List Tab) (ln : List Nm) : Bool :=
  [kind].all (toB 3) && (decide (lt.length ≤ 16) && lt.all tabOk) && [hs, rs, nm, cs].all (toB 8) && [hf, hu, rv, rb, cf].all (toB 65535) && (decide (ln.length ≤ 20) && ln.all nmOk) && [cc].all (toB 1114112)

set_option maxRecDepth 100000 in
set_option maxHeartbeats 4000000 in
theorem right46 (kind hs hf hu rs rv rb nm cs cf cc : Int) (T N : Value) (lt : List Tab) (ln : List Nm) (w : World)
    (hlt : lt.length ≤ 9223372036854775807) (hln : ln.length ≤ 9223372036854775807) (htx : ∀ x ∈ ln, x.tx.size ≤ 9223372036854775807) (hT : RowIs w T lt.length (tcells lt)) (hN : RowIs w N ln.length (ncells ln)) (hu' : Utabs w) :
    Calls Tryd.prog 56 #[.agg #[.int .i64 kind, T, .int .i64 hs, .int .i64 hf, .int .i64 hu, .int .i64 rs, .int .i64 rv, .int .i64 rb, .int .i64 nm, N, .int .i64 cs, .int .i64 cf, .int .i64 cc]] w
      fun e w' => e = .returned (.bool (rightB kind hs hf hu rs rv rb nm cs cf cc lt ln)) ∧ Below w.heap.size w w' := by
  have HT := Lib.hid hT
  have HN := Lib.hid hN
  have HU := Lib.hid hu'
  have hTs : ∃ ao n cap, T = .slice ao n cap := by obtain ⟨ao, cap, h, _⟩ := hT; exact ⟨_, _, _, h⟩
  have hNs : ∃ ao n cap, N = .slice ao n cap := by obtain ⟨ao, cap, h, _⟩ := hN; exact ⟨_, _, _, h⟩
  obtain ⟨tao, tn, tcap, hTe⟩ := hTs
  obtain ⟨nao, nn, ncap, hNe⟩ := hNs
  subst hTe hNe
  clear hT hN hu'
  have a0 := allocAt w (.cells #[.int .i64 kind, .slice tao tn tcap, .int .i64 hs, .int .i64 hf, .int .i64 hu, .int .i64 rs, .int .i64 rv, .int .i64 rb, .int .i64 nm, .slice nao nn ncap, .int .i64 cs, .int .i64 cf, .int .i64 cc] 37)
  have bw0 : Below w.heap.size w (w.alloc (.cells #[.int .i64 kind, .slice tao tn tcap, .int .i64 hs, .int .i64 hf, .int .i64 hu, .int .i64 rs, .int .i64 rv, .int .i64 rb, .int .i64 nm, .slice nao nn ncap, .int .i64 cs, .int .i64 cf, .int .i64 cc] 37)) := (Below.refl _ _).alloc (Nat.le_refl _) _
  have bw1 : Below w.heap.size w ((w.alloc (.cells #[.int .i64 kind, .slice tao tn tcap, .int .i64 hs, .int .i64 hf, .int .i64 hu, .int .i64 rs, .int .i64 rv, .int .i64 rb, .int .i64 nm, .slice nao nn ncap, .int .i64 cs, .int .i64 cf, .int .i64 cc] 37)).alloc (.cells #[.int .i64 kind] 3)) := bw0.alloc bw0.size _
  have a1 := allocOld (o' := .cells #[.int .i64 kind] 3) a0
  have W1 := Lib.hid (withinN 3 [kind] (w.alloc (.cells #[.int .i64 kind, .slice tao tn tcap, .int .i64 hs, .int .i64 hf, .int .i64 hu, .int .i64 rs, .int .i64 rv, .int .i64 rb, .int .i64 nm, .slice nao nn ncap, .int .i64 cs, .int .i64 cf, .int .i64 cc] 37)) (w.heap.size + 1) #[.int .i64 kind] 1 (by simp) rfl rfl (by decide) _ rfl)
  have W2 := Lib.hid (tables57 (.slice tao tn tcap) lt ((w.alloc (.cells #[.int .i64 kind, .slice tao tn tcap, .int .i64 hs, .int .i64 hf, .int .i64 hu, .int .i64 rs, .int .i64 rv, .int .i64 rb, .int .i64 nm, .slice nao nn ncap, .int .i64 cs, .int .i64 cf, .int .i64 cc] 37)).alloc (.cells #[.int .i64 kind] 3)) hlt (HT.out.on bw1))
  have W3 := Lib.hid (fun (w1 : World) => withinN 8 [hs, rs, nm, cs] w1 w1.heap.size #[.int .i64 hs, .int .i64 rs, .int .i64 nm, .int .i64 cs] 4 rfl rfl rfl (by decide) _ rfl)
  have W4 := Lib.hid (fun (w1 : World) => withinN 65535 [hf, hu, rv, rb, cf] (w1.alloc (.cells #[.int .i64 hs, .int .i64 rs, .int .i64 nm, .int .i64 cs] 3)) (w1.heap.size + 1) #[.int .i64 hf, .int .i64 hu, .int .i64 rv, .int .i64 rb, .int .i64 cf] 5 (by simp) rfl rfl (by decide) _ rfl)
  have W5 := Lib.hid (fun (w1 : World) (h : Below w.heap.size w w1) => names58 (.slice nao nn ncap) ln w1 hln htx (HN.out.on h) (HU.out.below h))
  have W6 := Lib.hid (fun (w1 : World) => withinN 1114112 [cc] w1 w1.heap.size #[.int .i64 cc] 1 rfl rfl rfl (by decide) _ rfl)
  unfold rightB
  generalize [kind].all (toB 3) = r1 at *
  generalize (decide (lt.length ≤ 16) && lt.all tabOk) = r2 at *
  generalize [hs, rs, nm, cs].all (toB 8) = r3 at *
  generalize [hf, hu, rv, rb, cf].all (toB 65535) = r4 at *
  generalize (decide (ln.length ≤ 20) && ln.all nmOk) = r5 at *
  generalize [cc].all (toB 1114112) = r6 at *
  clear HT HN HU
  go_enter Tryd.func56, Tryd.ntmps56
  go_wp2_with (go_at_call 79; refine W1.out.mono ?_; rintro e w4 ⟨rfl, rfl⟩; refine Hid.out ?_)
  clear W1
  cases r1
  · refine Lib.hid ?_
    go_wp2
    go_ret
    exact ⟨rfl, bw1⟩
  refine Lib.hid ?_
  go_wp2_with (go_at_call 80; refine W2.out.mono ?_; rintro e w1 ⟨rfl, hb1⟩; refine Hid.out ?_)
  clear W2
  have a2 := belowAt hb1 a1
  have bw2 := bw1.trans (hb1.mono bw1.size)
  clear a0 a1 bw0 bw1 hb1
  cases r2
  · refine Lib.hid ?_
    go_wp2
    go_ret
    exact ⟨rfl, bw2⟩
  have y2 := cellsAt a2 2
  have y3 := cellsAt a2 3
  have y4 := cellsAt a2 4
  have y5 := cellsAt a2 5
  have y6 := cellsAt a2 6
  have y7 := cellsAt a2 7
  have y8 := cellsAt a2 8
  have y9 := cellsAt a2 9
  have y10 := cellsAt a2 10
  have y11 := cellsAt a2 11
  simp only [List.getElem?_toArray, List.getElem?_cons_zero, List.getElem?_cons_succ] at y2 y3 y4 y5 y6 y7 y8 y9 y10 y11
  have bw3 : Below w.heap.size w (w1.alloc (.cells #[.int .i64 hs, .int .i64 rs, .int .i64 nm, .int .i64 cs] 3)) := bw2.alloc bw2.size _
  have bw4 : Below w.heap.size w ((w1.alloc (.cells #[.int .i64 hs, .int .i64 rs, .int .i64 nm, .int .i64 cs] 3)).alloc (.cells #[.int .i64 hf, .int .i64 hu, .int .i64 rv, .int .i64 rb, .int .i64 cf] 3)) := bw3.alloc bw3.size _
  have hlt1 : w.heap.size < w1.heap.size := (Array.getElem?_eq_some_iff.1 a2).1
  refine Lib.hid ?_
  go_wp2_with (go_at_call 79; refine (W3.out _).mono ?_; rintro e w4 ⟨rfl, rfl⟩; refine Hid.out ?_)
  clear W3
  cases r3
  · refine Lib.hid ?_
    go_wp2
    go_ret
    exact ⟨rfl, bw3⟩
  refine Lib.hid ?_
  go_wp2_with (go_at_call 79; refine (W4.out _).mono ?_; rintro e w4 ⟨rfl, rfl⟩; refine Hid.out ?_)
  clear W4
  cases r4
  · refine Lib.hid ?_
    go_wp2
    go_ret
    exact ⟨rfl, bw4⟩
  refine Lib.hid ?_
  go_wp2_with (go_at_call 81; refine (W5.out _ bw4).mono ?_; rintro e w5 ⟨rfl, hb5⟩; refine Hid.out ?_)
  have bw5 := bw4.trans (hb5.mono bw4.size)
  have a5 := belowAt hb5 (allocOld (allocOld a2))
  clear W5 y2 y3 y4 y5 y6 y7 y8 y9 y10 y11 a2 bw2 bw3 bw4 hb5
  cases r5
  · refine Lib.hid ?_
    go_wp2
    go_ret
    exact ⟨rfl, bw5⟩
  have y12 := cellsAt a5 12
  simp only [List.getElem?_toArray, List.getElem?_cons_zero, List.getElem?_cons_succ] at y12
  have bw6 : Below w.heap.size w (w5.alloc (.cells #[.int .i64 cc] 3)) := bw5.alloc bw5.size _
  refine Lib.hid ?_
  go_wp2_with (go_at_call 79; refine (W6.out _).mono ?_; rintro e w4 ⟨rfl, rfl⟩; refine Hid.out ?_)
  cases r6
  all_goals
    refine Lib.hid ?_
    go_wp2
    go_ret
    exact ⟨rfl, bw6⟩
end Go.Proofs.YteibjmlimcpaoaaDoor

set_option linter.unusedVariables false
set_option linter.unusedSimpArgs false
namespace Go.Proofs.YteibjmlimcpaoaaDoor
open Go.RowKit Go.Sort

theorem tabsGo_snd : ∀ (l : List Tab) (acc : List UInt8), (tabsGo l acc).2 = l.all tabOk
  | [], acc => rfl
  | t :: r, acc => by
    rw [tabsGo, List.all_cons]
    cases h : tabOk t
    · simp
    · simp only [if_true, Bool.true_and]
      exact tabsGo_snd r _
theorem nmsGo_snd : ∀ (l : List Nm) (acc : List UInt8), (nmsGo l acc).2 = l.all nmOk
  | [], acc => rfl
  | t :: r, acc => by
    rw [nmsGo, List.all_cons]
    cases h : nmOk t
    · simp
    · simp only [if_true, Bool.true_and]
      exact nmsGo_snd r _
theorem tabsR_snd (l : List Tab) : (tabsR l).2 = (decide (l.length ≤ 16) && l.all tabOk) := by
  unfold tabsR
  by_cases h : 16 < l.length
  · rw [if_pos h, decide_eq_false (by omega)]; rfl
  · rw [if_neg h, decide_eq_true (by omega), tabsGo_snd]; rfl
theorem nmsR_snd (l : List Nm) : (nmsR l).2 = (decide (l.length ≤ 20) && l.all nmOk) := by
  unfold nmsR
  by_cases h : 20 < l.length
  · rw [if_pos h, decide_eq_false (by omega)]; rfl
  · rw [if_neg h, decide_eq_true (by omega), nmsGo_snd]; rfl
theorem enc_bad {kind hs hf hu rs rv rb nm cs cf cc : Int} {lt : List Tab} {ln : List Nm} (h : rightB kind hs hf hu rs rv rb nm cs cf cc lt ln = false) : encOf kind hs hf hu rs rv rb nm cs cf cc (tabsR lt) (nmsR ln) = ([], 5) := by
  unfold encOf
  rw [if_neg]
  intro c
  rw [tabsR_snd, nmsR_snd] at c
  unfold rightB at h
  simp only [List.all_cons, List.all_nil, Bool.and_true, Bool.and_eq_true] at c h
  have : rightB kind hs hf hu rs rv rb nm cs cf cc lt ln = true := by
    unfold rightB
    simp only [List.all_cons, List.all_nil, Bool.and_true, Bool.and_eq_true]
    obtain ⟨⟨⟨⟨⟨c1, c2⟩, c3⟩, c4⟩, c5⟩, c6⟩ := c
    exact ⟨⟨⟨⟨⟨c1, c4⟩, c2⟩, c3⟩, c5⟩, c6⟩
  unfold rightB at this
  simp only [List.all_cons, List.all_nil, Bool.and_true] at this
  rw [this] at h
  cases h
theorem enc_good {kind hs hf hu rs rv rb nm cs cf cc : Int} {lt : List Tab} {ln : List Nm} (h : rightB kind hs hf hu rs rv rb nm cs cf cc lt ln = true) :
    encOf kind hs hf hu rs rv rb nm cs cf cc (tabsR lt) (nmsR ln) = (oneL kind.toNat ++ oneL lt.length ++ lt.flatMap tabL ++ oneL hs.toNat ++ twoL hf.toNat ++ twoL hu.toNat ++ oneL rs.toNat ++ twoL rv.toNat ++ twoL rb.toNat ++ oneL nm.toNat ++ oneL ln.length ++ ln.flatMap nmL ++ oneL cs.toNat ++ twoL cf.toNat ++ fourL cc.toNat, 0) ∧
    toB 3 kind = true ∧ toB 8 hs = true ∧ toB 8 rs = true ∧ toB 8 nm = true ∧ toB 8 cs = true ∧ toB 65535 hf = true ∧ toB 65535 hu = true ∧ toB 65535 rv = true ∧ toB 65535 rb = true ∧ toB 65535 cf = true ∧ toB 1114112 cc = true ∧ lt.length ≤ 16 ∧ ln.length ≤ 20 ∧ (∀ t ∈ lt, tabOk t = true) ∧ (∀ x ∈ ln, nmOk x = true) := by
  have h' := h
  unfold rightB at h
  simp only [List.all_cons, List.all_nil, Bool.and_true, Bool.and_eq_true, decide_eq_true_eq] at h
  obtain ⟨⟨⟨⟨⟨c1, ⟨c2, c3⟩⟩, d1, d2, d3, d4⟩, e1, e2, e3, e4, e5⟩, ⟨f1, f2⟩⟩, g1⟩ := h
  have c3' := List.all_eq_true.1 c3
  have f2' := List.all_eq_true.1 f2
  refine ⟨?_, c1, d1, d2, d3, d4, e1, e2, e3, e4, e5, g1, c2, f1, c3', f2'⟩
  unfold encOf
  rw [if_pos]
  · have q1 : (tabsR lt).1 = oneL lt.length ++ lt.flatMap tabL := by
      unfold tabsR
      rw [if_neg (by omega), tabsGo_all _ _ c3']
    have q2 : (nmsR ln).1 = oneL ln.length ++ ln.flatMap nmL := by
      unfold nmsR
      rw [if_neg (by omega), nmsGo_all _ _ f2']
    rw [q1, q2]
    simp only [List.append_assoc]
  · rw [tabsR_snd, nmsR_snd]
    simp only [List.all_cons, List.all_nil, Bool.and_true, Bool.and_eq_true, decide_eq_true_eq]
    exact ⟨⟨⟨⟨⟨c1, d1, d2, d3, d4⟩, e1, e2, e3, e4, e5⟩, c2, c3⟩, f1, f2⟩, g1⟩

theorem RowIs.onB {w w1 w' : World} {v : Value} {n : Nat} {xs : List Value} (h : RowIs w v n xs) (h1 : Below w.heap.size w w1) (h2 : Below w1.heap.size w1 w') : RowIs w' v n xs :=
  h.on (h1.trans (h2.mono h1.size))

theorem run_conv_own (w : World) (B : Nat) (l : List UInt8) (v : Value) (h : w.ownsRow B 5 1 v l.length (Lib.byteCells l)) (hl : 0 < l.length) :
    (convert 62 9 v).run Tryd.prog w = .ok (.string ⟨l.toArray⟩) w := by
  rcases h.2 with ⟨_, hv⟩ | ⟨g, cap, cur, hv, _⟩
  · omega
  subst hv
  refine run_convert_bytes_back _ 62 9 5 ⟨g, 0, none⟩ _ l Tryd.underlying62 Tryd.underlying5 Tryd.underlying9 ?_
  intro j hj
  refine h.cells rfl j _ ?_
  simp [Lib.byteCells, hj]

set_option maxRecDepth 100000 in
set_option maxHeartbeats 4000000 in
theorem enc27 (kind hs hf hu rs rv rb nm cs cf cc : Int) (T N : Value) (lt : List Tab) (ln : List Nm) (w : World)
    (hlt : lt.length ≤ 9223372036854775807) (hln : ln.length ≤ 9223372036854775807) (htx : ∀ x ∈ ln, x.tx.size ≤ 9223372036854775807) (hT : RowIs w T lt.length (tcells lt)) (hN : RowIs w N ln.length (ncells ln)) (hu' : Utabs w) (r : List UInt8 × Int) (hr : encOf kind hs hf hu rs rv rb nm cs cf cc (tabsR lt) (nmsR ln) = r) :
    Calls Tryd.prog 34 #[.agg #[.int .i64 kind, T, .int .i64 hs, .int .i64 hf, .int .i64 hu, .int .i64 rs, .int .i64 rv, .int .i64 rb, .int .i64 nm, N, .int .i64 cs, .int .i64 cf, .int .i64 cc]] w fun e w' => e = .returned (.tuple #[.string ⟨r.1.toArray⟩, .int .i64 r.2]) ∧ Below w.heap.size w w' := by
  have HT := Lib.hid hT
  have HN := Lib.hid hN
  have HR := Lib.hid hr
  clear hr
  have hTs : ∃ ao n cap, T = .slice ao n cap := by obtain ⟨ao, cap, h, _⟩ := hT; exact ⟨_, _, _, h⟩
  have hNs : ∃ ao n cap, N = .slice ao n cap := by obtain ⟨ao, cap, h, _⟩ := hN; exact ⟨_, _, _, h⟩
  obtain ⟨tao, tn, tcap, hTe⟩ := hTs
  obtain ⟨nao, nn, ncap, hNe⟩ := hNs
  subst hTe hNe
  clear hT hN
  have a0 := allocAt w (.cells #[.int .i64 kind, .slice tao tn tcap, .int .i64 hs, .int .i64 hf, .int .i64 hu, .int .i64 rs, .int .i64 rv, .int .i64 rb, .int .i64 nm, .slice nao nn ncap, .int .i64 cs, .int .i64 cf, .int .i64 cc] 37)
  have b0 : Below w.heap.size w (w.alloc (.cells #[.int .i64 kind, .slice tao tn tcap, .int .i64 hs, .int .i64 hf, .int .i64 hu, .int .i64 rs, .int .i64 rv, .int .i64 rb, .int .i64 nm, .slice nao nn ncap, .int .i64 cs, .int .i64 cf, .int .i64 cc] 37)) := (Below.refl _ _).alloc (Nat.le_refl _) _
  have R := Lib.hid (right46 kind hs hf hu rs rv rb nm cs cf cc (.slice tao tn tcap) (.slice nao nn ncap) lt ln _ hlt hln htx (HT.out.on b0) (HN.out.on b0) (hu'.below b0))
  cases hgood : rightB kind hs hf hu rs rv rb nm cs cf cc lt ln
  · rw [hgood] at R
    have h1 := HR.out
    rw [enc_bad hgood] at h1
    have H1 := Lib.hid h1
    clear h1 hgood HR
    go_enter Tryd.func34, Tryd.ntmps34
    go_wp2_with (go_at_call 56; refine R.out.mono ?_; rintro e w1 ⟨rfl, hb1⟩)
    go_ret2
    refine ⟨?_, b0.trans (hb1.mono b0.size)⟩
    rw [← H1.out]
    rfl
  · rw [hgood] at R
    obtain ⟨he, v0, v1, v2, v3, v4, u1, u2, u3, u4, u5, u6, p1, p2, p3, p4⟩ := enc_good hgood
    obtain ⟨kind, rfl, e0⟩ := toB_nat v0
    obtain ⟨hs, rfl, e1⟩ := toB_nat v1
    obtain ⟨rs, rfl, e2⟩ := toB_nat v2
    obtain ⟨nm, rfl, e3⟩ := toB_nat v3
    obtain ⟨cs, rfl, e4⟩ := toB_nat v4
    obtain ⟨hf, rfl, e5⟩ := toB_nat u1
    obtain ⟨hu, rfl, e6⟩ := toB_nat u2
    obtain ⟨rv, rfl, e7⟩ := toB_nat u3
    obtain ⟨rb, rfl, e8⟩ := toB_nat u4
    obtain ⟨cf, rfl, e9⟩ := toB_nat u5
    obtain ⟨cc, rfl, e10⟩ := toB_nat u6
    have h1 := HR.out
    rw [he] at h1
    simp only [Int.toNat_natCast] at h1
    obtain ⟨bs, hbs⟩ : ∃ X, oneL kind ++ oneL lt.length ++ lt.flatMap tabL ++ oneL hs ++ twoL hf ++ twoL hu ++ oneL rs ++ twoL rv ++ twoL rb ++ oneL nm ++ oneL ln.length ++ ln.flatMap nmL ++ oneL cs ++ twoL cf ++ fourL cc = X := ⟨_, rfl⟩
    rw [hbs] at h1
    have hpos : 0 < bs.length := by
      rw [← hbs]
      simp only [List.length_append]
      have : (oneL kind).length = 1 := rfl
      omega
    have H1 := Lib.hid h1
    have WR := Lib.hid (fun (w2 : World) (b : Nat) (hb : w2.heap[b]? = some (.cells #[.slice none 0 0] 96 (0, 0))) (h2 : Below w.heap.size w (w2)) (hbe : b + 1 = w2.heap.size) (hwb : w.heap.size ≤ b) =>
      wreport b b kind hs hf hu rs rv rb nm cs cf cc (.slice tao tn tcap) (.slice nao nn ncap) lt ln [] w2 (by omega) (by omega) (by omega) (by omega) (by omega) (by omega) (by omega) (by omega) (by omega) (by omega) (by omega) (by omega) p1 p2 p3 p4
        (fun w' h => HT.out.on (h2.trans (h.mono hwb))) (fun w' h => HN.out.on (h2.trans (h.mono hwb))) ⟨Nat.le_refl _, _, hb, World.ownsRow_nil _ _ _ _⟩ (by simp) bs (by simpa using hbs))
    clear h1 he v0 v1 v2 v3 v4 u1 u2 u3 u4 u5 u6 hgood hbs HR p3 p4
    go_enter Tryd.func34, Tryd.ntmps34
    go_wp2_with (go_at_call 56; refine R.out.mono ?_; rintro e w1 ⟨rfl, hb1⟩; refine Hid.out ?_)
    have a1 := belowAt hb1 a0
    have bw1 := b0.trans (hb1.mono b0.size)
    have a2 := allocOld (o' := .cells #[.slice none 0 0] 96) a1
    have x0 := cellsAt a2 0
    have x1 := cellsAt a2 1
    have x2 := cellsAt a2 2
    have x3 := cellsAt a2 3
    have x4 := cellsAt a2 4
    have x5 := cellsAt a2 5
    have x6 := cellsAt a2 6
    have x7 := cellsAt a2 7
    have x8 := cellsAt a2 8
    have x9 := cellsAt a2 9
    have x10 := cellsAt a2 10
    have x11 := cellsAt a2 11
    have x12 := cellsAt a2 12
    simp only [List.getElem?_toArray, List.getElem?_cons_zero, List.getElem?_cons_succ] at x0 x1 x2 x3 x4 x5 x6 x7 x8 x9 x10 x11 x12
    have bw2 : Below w.heap.size w (w1.alloc (.cells #[.slice none 0 0] 96)) := bw1.alloc bw1.size _
    have hne := (Array.getElem?_eq_some_iff.1 a1).1
    refine Lib.hid ?_
    go_wp2_with (go_at_call 57; refine (WR.out _ w1.heap.size (allocAt _ _) bw2 (by simp) (by omega)).mono ?_; rintro e w3 ⟨rfl, g3, b3⟩; refine Hid.out ?_)
    clear x0 x1 x2 x3 x4 x5 x6 x7 x8 x9 x10 x11 x12
    obtain ⟨hB, v, hbk, hown⟩ := g3
    have d0 : w3.cell? ⟨w1.heap.size, 0, none⟩ = some v := by simp [World.cell?, hbk]
    have hcv := run_conv_own w3 _ bs v hown hpos
    have bw3 := bw2.trans (b3.mono bw1.size)
    obtain ⟨ao, n', cap, rfl⟩ : ∃ ao n' cap, v = .slice ao n' cap := by
      rcases hown.2 with ⟨hv, _⟩ | ⟨g, cap, cur, hv, _⟩
      · exact ⟨_, _, _, hv⟩
      · exact ⟨_, _, _, hv⟩
    refine Lib.hid ?_
    go_wp2
    go_ret2
    refine ⟨?_, bw3⟩
    rw [← H1.out]
    rfl

set_option maxRecDepth 100000 in
set_option maxHeartbeats 1000000 in
theorem enc11 (kind hs hf hu rs rv rb nm cs cf cc : Int) (T N : Value) (lt : List Tab) (ln : List Nm) (w : World)
    (hlt : lt.length ≤ 9223372036854775807) (hln : ln.length ≤ 9223372036854775807) (htx : ∀ x ∈ ln, x.tx.size ≤ 9223372036854775807) (hT : RowIs w T lt.length (tcells lt)) (hN : RowIs w N ln.length (ncells ln)) (hu' : Utabs w) (r : List UInt8 × Int) (hr : encOf kind hs hf hu rs rv rb nm cs cf cc (tabsR lt) (nmsR ln) = r) :
    Calls Tryd.prog 13 #[.agg #[.int .i64 kind, T, .int .i64 hs, .int .i64 hf, .int .i64 hu, .int .i64 rs, .int .i64 rv, .int .i64 rb, .int .i64 nm, N, .int .i64 cs, .int .i64 cf, .int .i64 cc]] w fun e w' => e = .returned (.tuple #[.string ⟨r.1.toArray⟩, .int .i64 r.2]) ∧ Below w.heap.size w w' := by
  have hTs : ∃ ao n cap, T = .slice ao n cap := by obtain ⟨ao, cap, h, _⟩ := hT; exact ⟨_, _, _, h⟩
  have hNs : ∃ ao n cap, N = .slice ao n cap := by obtain ⟨ao, cap, h, _⟩ := hN; exact ⟨_, _, _, h⟩
  obtain ⟨tao, tn, tcap, hTe⟩ := hTs
  obtain ⟨nao, nn, ncap, hNe⟩ := hNs
  subst hTe hNe
  have b0 : Below w.heap.size w (w.alloc (.cells #[.int .i64 kind, .slice tao tn tcap, .int .i64 hs, .int .i64 hf, .int .i64 hu, .int .i64 rs, .int .i64 rv, .int .i64 rb, .int .i64 nm, .slice nao nn ncap, .int .i64 cs, .int .i64 cf, .int .i64 cc] 37)) := (Below.refl _ _).alloc (Nat.le_refl _) _
  have E := Lib.hid (enc27 kind hs hf hu rs rv rb nm cs cf cc (.slice tao tn tcap) (.slice nao nn ncap) lt ln _ hlt hln htx (hT.on b0) (hN.on b0) (hu'.below b0) r hr)
  clear hr hT hN hu'
  go_enter Tryd.func13, Tryd.ntmps13
  go_wp2_with (go_at_call 34; refine E.out.mono ?_; rintro e w1 ⟨rfl, hb1⟩)
  go_ret2
  exact ⟨rfl, b0.trans (hb1.mono b0.size)⟩
end Go.Proofs.YteibjmlimcpaoaaDoor
