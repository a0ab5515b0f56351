/-
  What report.within, rightTables, rightNames answer, for every number and every list wherever it lies; nothing that lay in memory turns.
-/
import Derived.Test.YteibjmlimcpaoaaDoorERt
set_option linter.unusedVariables false
set_option linter.unusedSimpArgs false
namespace Go.Proofs.YteibjmlimcpaoaaDoor
open Go.RowKit Go.Sort

def icells (l : List Int) : List Value := l.map (.int .i64)

set_option maxRecDepth 100000 in
set_option maxHeartbeats 1000000 in
theorem within56 (most : Int) (l : List Int) (v : Value) (w : World) (r : Bool) (hl : l.length ≤ 9223372036854775807) (hv : RowIs w v l.length (icells l)) (hr : l.all (toB most) = r) :
    Calls Tryd.prog 79 #[.int .i64 most, v] w fun e w' => e = .returned (.bool r) ∧ w' = w := by
  have HR := Lib.hid hr
  clear hr
  obtain ⟨ao, cap, rfl, hcell⟩ := hv
  go_enter Tryd.func79, Tryd.ntmps79
  go_wp2
  go_loopw [9] (fun is wr => ∃ (k : Nat), is = .int .i64 k ∧ k ≤ l.length ∧ wr = w ∧ Hid ((l.drop k).all (toB most) = r)) (fun is _ => l.length - (intOf is).toNat)
  case atStart => exact ⟨0, rfl, Nat.zero_le _, rfl, HR⟩
  case round =>
    obtain ⟨k, rfl, hk, rfl, H⟩ := hrel
    clear HR
    by_cases hlt : k < l.length
    · obtain ⟨g, o, rfl, hcl⟩ := hcell (by omega)
      obtain ⟨x, hx⟩ : ∃ x, l[k]? = some x := ⟨_, List.getElem?_eq_getElem hlt⟩
      have c0 := hcl k (.int .i64 x) (by simp [icells, hx])
      have hdr : l.drop k = x :: l.drop (k + 1) := by
        rw [List.drop_eq_getElem_cons hlt]
        congr 1
        exact Option.some.inj ((List.getElem?_eq_getElem hlt).symm.trans hx)
      have h1 := H.out
      rw [hdr, List.all_cons] at h1
      clear hcl hcell hdr H hx
      cases hb : toB most x
      · rw [hb] at h1
        simp only [Bool.false_and] at h1
        have hb2 : x < 0 ∨ most < x := by
          have := of_decide_eq_false hb
          omega
        have H1 := Lib.hid h1
        clear h1 hb
        by_cases hx0 : x < 0
        · go_wp2
          go_ret
          exact ⟨ret_bool H1.out, rfl⟩
        · have hx1 : most < x := by omega
          go_wp2
          go_ret
          exact ⟨ret_bool H1.out, rfl⟩
      · rw [hb] at h1
        simp only [Bool.true_and] at h1
        obtain ⟨x0, x1⟩ := of_decide_eq_true hb
        have H1 := Lib.hid h1
        clear h1 hb
        have x0' : ¬ x < 0 := by omega
        have x1' : ¬ most < x := by omega
        go_wp2
        refine ⟨⟨k + 1, by go_num, by omega, by first | rfl | trivial, H1⟩, by simp [intOf]; omega⟩
    · have h2 := H.out
      rw [List.drop_eq_nil_of_le (by omega)] at h2
      have H2 := Lib.hid h2
      clear h2 H
      have hge : ¬ ((k : Int) < (l.length : Int)) := by omega
      go_wp2
      go_ret
      exact ⟨ret_bool H2.out, rfl⟩

theorem newCell (w : World) (x : Value) (T : TypeId) (g : Nat) (hg : g = w.heap.size) : (w.alloc (.cells #[x] T)).cell? ⟨g, 0, none⟩ = some x := by
  subst hg
  rw [World.cell?_alloc_new]
  rfl
theorem one_row {w : World} {g : Nat} {x : Int} (h : w.cell? ⟨g, 0, none⟩ = some (.int .i64 x)) : RowIs w (.slice (some ⟨g, 0, none⟩) 1 1) [x].length (icells [x]) := by
  refine ⟨_, _, rfl, fun _ => ⟨g, 0, rfl, fun j u hj => ?_⟩⟩
  cases j with
  | zero =>
    simp [icells] at hj
    subst hj
    exact h
  | succ j => simp [icells] at hj

set_option maxRecDepth 100000 in
set_option maxHeartbeats 1000000 in
theorem tables57_small (v : Value) (l : List Tab) (w : World) (hl : l.length ≤ 16) (hv : RowIs w v l.length (tcells l)) (r : Bool) (hr : l.all tabOk = r) :
    Calls Tryd.prog 80 #[v] w fun e w' => e = .returned (.bool r) ∧ Below w.heap.size w w' := by
  have hl' : ¬ (16 : Int) < (l.length : Int) := by omega
  have HR := Lib.hid hr
  have HV := Lib.hid hv
  clear hr
  obtain ⟨ao, cap, rfl, hcell⟩ := hv
  clear hcell
  have W := Lib.hid (fun most x (w : World) g (h : w.cell? ⟨g, 0, none⟩ = some (.int .i64 x)) => within56 most [x] (.slice (some ⟨g, 0, none⟩) 1 1) w _ (by simp) (one_row h) rfl)
  go_enter Tryd.func80, Tryd.ntmps80
  go_wp2
  go_loopw [10] (fun is wr => ∃ (k : Nat), is = .int .i64 k ∧ k ≤ l.length ∧ Below w.heap.size w wr ∧ Hid ((l.drop k).all tabOk = r)) (fun is _ => l.length - (intOf is).toNat)
  case atStart => exact ⟨0, rfl, Nat.zero_le _, Below.refl _ _, HR⟩
  case round =>
    obtain ⟨k, rfl, hk, hbw, H⟩ := hrel
    clear HR
    by_cases hlt : k < l.length
    · obtain ⟨_, _, hao, hcell⟩ := HV.out.on hbw
      cases hao
      obtain ⟨g, o, rfl, hcl⟩ := hcell (by omega)
      obtain ⟨⟨tag, st, sz⟩, hx⟩ : ∃ x, l[k]? = some x := ⟨_, List.getElem?_eq_getElem hlt⟩
      obtain ⟨t0, t1, t2⟩ := tcells_at l k _ hx
      have c0 := hcl _ _ t0
      have c1 := hcl _ _ t1
      have c2 := hcl _ _ t2
      simp only at c0 c1 c2
      rw [← Nat.add_assoc] at c1 c2
      have hdr : l.drop k = ⟨tag, st, sz⟩ :: l.drop (k + 1) := by
        rw [List.drop_eq_getElem_cons hlt]
        congr 1
        exact Option.some.inj ((List.getElem?_eq_getElem hlt).symm.trans hx)
      have h1 := H.out
      rw [hdr, List.all_cons] at h1
      clear hcell hcl t0 t1 t2 hdr H hx
      have b1 : Below w.heap.size w (wr.alloc (.cells #[.string tag, .int .i64 st, .int .i64 sz] 77)) := hbw.alloc hbw.size _
      have hsz := hbw.size
      by_cases q1 : tag.size = 4
      · have q1' : ((tag.size : Int) != 4) = false := by simp only [bne_eq_false_iff_eq]; omega
        have W4 := Lib.hid (W.out 4 st ((wr.alloc (.cells #[.string tag, .int .i64 st, .int .i64 sz] 77)).alloc (.cells #[.int .i64 st] 3)) (wr.heap.size + 1) (newCell _ _ _ _ (by simp)))
        have b2 : Below w.heap.size w ((wr.alloc (.cells #[.string tag, .int .i64 st, .int .i64 sz] 77)).alloc (.cells #[.int .i64 st] 3)) := b1.alloc b1.size _
        cases q2 : toB 4 st
        · have hok : tabOk ⟨tag, st, sz⟩ = false := by simp [tabOk, q2]
          rw [hok] at h1
          simp only [Bool.false_and] at h1
          have H1 := Lib.hid h1
          rw [show [st].all (toB 4) = false by simp [q2]] at W4
          clear h1 hok q2
          go_wp2_with (go_at_call 79; refine W4.out.mono ?_; rintro e w4 ⟨rfl, rfl⟩)
          go_ret
          exact ⟨ret_bool H1.out, b2⟩
        · rw [show [st].all (toB 4) = true by simp [q2]] at W4
          have W5 := Lib.hid (W.out 2000 sz (((wr.alloc (.cells #[.string tag, .int .i64 st, .int .i64 sz] 77)).alloc (.cells #[.int .i64 st] 3)).alloc (.cells #[.int .i64 sz] 3)) (wr.heap.size + 2) (newCell _ _ _ _ (by simp)))
          have b3 : Below w.heap.size w (((wr.alloc (.cells #[.string tag, .int .i64 st, .int .i64 sz] 77)).alloc (.cells #[.int .i64 st] 3)).alloc (.cells #[.int .i64 sz] 3)) := b2.alloc b2.size _
          cases q3 : toB 2000 sz
          · have hok : tabOk ⟨tag, st, sz⟩ = false := by simp [tabOk, q3]
            rw [hok] at h1
            simp only [Bool.false_and] at h1
            have H1 := Lib.hid h1
            rw [show [sz].all (toB 2000) = false by simp [q3]] at W5
            clear h1 hok q2 q3
            go_wp2_with (go_at_call 79; refine W4.out.mono ?_; rintro e w4 ⟨rfl, rfl⟩; refine Hid.out ?_)
            refine Lib.hid ?_
            go_wp2_with (go_at_call 79; refine W5.out.mono ?_; rintro e w5 ⟨rfl, rfl⟩)
            go_ret
            exact ⟨ret_bool H1.out, b3⟩
          · have hok : tabOk ⟨tag, st, sz⟩ = true := by simp [tabOk, q1, q2, q3]
            rw [hok] at h1
            simp only [Bool.true_and] at h1
            have H1 := Lib.hid h1
            rw [show [sz].all (toB 2000) = true by simp [q3]] at W5
            clear h1 hok q2 q3
            go_wp2_with (go_at_call 79; refine W4.out.mono ?_; rintro e w4 ⟨rfl, rfl⟩; refine Hid.out ?_)
            refine Lib.hid ?_
            go_wp2_with (go_at_call 79; refine W5.out.mono ?_; rintro e w5 ⟨rfl, rfl⟩)
            refine ⟨⟨k + 1, by go_num, by omega, b3, H1⟩, by simp [intOf]; omega⟩
      · have q1' : ((tag.size : Int) != 4) = true := by simp only [bne_iff_ne]; omega
        have hok : tabOk ⟨tag, st, sz⟩ = false := by simp [tabOk, q1]
        rw [hok] at h1
        simp only [Bool.false_and] at h1
        have H1 := Lib.hid h1
        clear h1 hok
        go_wp2
        go_ret
        exact ⟨ret_bool H1.out, b1⟩
    · have h2 := H.out
      rw [List.drop_eq_nil_of_le (by omega)] at h2
      have H2 := Lib.hid h2
      clear h2 H
      have hge : ¬ ((k : Int) < (l.length : Int)) := by omega
      go_wp2
      go_ret
      exact ⟨ret_bool H2.out, hbw⟩
end Go.Proofs.YteibjmlimcpaoaaDoor
