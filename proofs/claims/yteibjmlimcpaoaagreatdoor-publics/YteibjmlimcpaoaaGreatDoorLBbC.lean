/-
  What the law's own Book.still answers of a book of lists of yes and no that are as their owner made them: true; nothing that lay in memory turns.
-/
import Derived.Test.YteibjmlimcpaoaaGreatDoorLBbA
import Derived.Test.YteibjmlimcpaoaaGreatDoorRvS
import Derived.Deep.CutRange
import Derived.Deep.RegionHeld3
set_option linter.unusedVariables false
set_option linter.unusedSimpArgs false
namespace Go.Proofs.YteibjmlimcpaoaaGreatDoor.V
open Go.RowKit Go.Sort

set_option maxRecDepth 100000 in
set_option maxHeartbeats 4000000 in
theorem stillB (B bb n : Nat) (es : List EnB) (w : World) (he : es.length ≤ 1000000) (hx : ∀ e ∈ es, e.xs.length ≤ 1000000) (hb : BookB B bb es n w) :
    Calls Tryz.prog 19 #[.pointer (some ⟨bb, 0, none⟩)] w fun e w' => e = .returned (.bool true) ∧ Below w.heap.size w w' := by
  obtain ⟨hB, VB, VW, hq, oB, oW, hBW, hes⟩ := hb
  obtain ⟨Ba, Bc, rfl, _⟩ := own_slice oB
  obtain ⟨Wa, Wc, rfl, _⟩ := own_slice oW
  have HQ := Lib.hid (And.intro hq (And.intro oB (And.intro oW (And.intro hes hx))))
  clear hq oB oW hes hx hBW
  go_enter Tryz.func19, Tryz.ntmps19
  go_wp2
  go_loopw [3] (fun is wr => is = .int .i64 0 ∧ Below w.heap.size w wr) (fun is _ => 0)
  case atStart => exact ⟨rfl, Below.refl _ _⟩
  case round =>
    obtain ⟨rfl, hbw⟩ := hrel
    have q1 := belowAt' hbw HQ.out.1
    have x1 := cellsAt q1 1
    have x3 := cellsAt q1 3
    simp only [List.getElem?_toArray, List.getElem?_cons_zero, List.getElem?_cons_succ] at x1 x3
    clear q1
    go_wp2
    clear x1 x3
    go_loopw [6] (fun ks wr => ∃ (i : Nat), ks = .int .i64 (i : Int) ∧ i ≤ es.length ∧ Below w.heap.size w wr) (fun ks _ => es.length - (intOf ks).toNat)
    case atStart => exact ⟨0, rfl, Nat.zero_le _, hbw⟩
    case round =>
      clear hbw
      obtain ⟨i, rfl, hi, hbw⟩ := hrel
      have q1 := belowAt' hbw HQ.out.1
      have x3 := cellsAt q1 3
      have x4 := cellsAt q1 4
      simp only [List.getElem?_toArray, List.getElem?_cons_zero, List.getElem?_cons_succ] at x3 x4
      clear q1
      by_cases hlt : i < es.length
      · obtain ⟨gB, cB, _, hv, _, _⟩ := own_form HQ.out.2.1 (by omega)
        cases hv
        obtain ⟨gW, cW, _, hv, _, _⟩ := own_form HQ.out.2.2.1 (by omega)
        cases hv
        obtain ⟨⟨xs, L, O⟩, hie⟩ : ∃ e, es[i]? = some e := ⟨_, List.getElem?_eq_getElem hlt⟩
        have hmem := List.mem_of_getElem? hie
        obtain ⟨hE1, hE2⟩ := HQ.out.2.2.2.1 _ hmem
        have hxx : xs.length ≤ 1000000 := HQ.out.2.2.2.2 _ hmem
        unfold OwnB at hE1 hE2
        simp only at hE1 hE2
        obtain ⟨la, lc, rfl, _⟩ := own_slice hE1
        obtain ⟨oa, oc, rfl, _⟩ := own_slice hE2
        have F : Hid (∀ w1, Below w.heap.size w w1 → w1.cell? ⟨bb, 3, none⟩ = some (.slice (some ⟨gB, 0, none⟩) es.length Bc) ∧ w1.cell? ⟨bb, 4, none⟩ = some (.slice (some ⟨gW, 0, none⟩) es.length Wc) ∧ w1.cell? ⟨gB, i, none⟩ = some (.slice la xs.length lc) ∧ w1.cell? ⟨gW, i, none⟩ = some (.slice oa xs.length oc)) := by
          intro w1 hb1
          have q1 := belowAt' hb1 HQ.out.1
          have x3 := cellsAt q1 3
          have x4 := cellsAt q1 4
          simp only [List.getElem?_toArray, List.getElem?_cons_zero, List.getElem?_cons_succ] at x3 x4
          have y3 := (own_any HQ.out.2.1 hb1).cellAt i (by omega)
          have y4 := (own_any HQ.out.2.2.1 hb1).cellAt i (by omega)
          rw [List.getElem?_map, hie] at y3 y4
          exact ⟨x3, x4, y3, y4⟩
        clear x3 x4
        obtain ⟨x3, x4, y3, y4⟩ := F.out _ hbw
        have SB := Lib.hid (fun (wx : World) (h : Below w.heap.size w wx) => sameBV (.slice la xs.length lc) (.slice oa xs.length oc) xs wx (by omega) (rowOfOwn (own_any hE1 h)) (rowOfOwn (own_any hE2 h)))
        clear hE1 hE2 hie hmem
        have ii0 : (0 : Int) ≤ (i : Int) := by omega
        have ii1 : (i : Int) < (es.length : Int) := by omega
        obtain ⟨Wq, hWq⟩ : ∃ W, W = wr := ⟨_, rfl⟩
        subst hWq
        go_upto_region 17 with fail
        go_cut [7] from 81 to 106 (fun s7 wx => s7 = .bool true ∧ Below w.heap.size w wx)
        case first =>
          go_region_held3 (fun w' => w'.cell? ⟨bb, 3, none⟩ = some (.slice (some ⟨gB, 0, none⟩) es.length Bc) ∧ w'.cell? ⟨bb, 4, none⟩ = some (.slice (some ⟨gW, 0, none⟩) es.length Wc) ∧ w'.cell? ⟨gB, i, none⟩ = some (.slice la xs.length lc) ∧ w'.cell? ⟨gW, i, none⟩ = some (.slice oa xs.length oc)) (go_keep) (first | (go_at_call 23; refine (SB.out _ (by first | exact hbw | exact hbw.drew)).mono ?_; rintro e w1 ⟨rfl, hb1⟩; have b1 : Below w.heap.size w w1 := (by first | exact hbw.trans (hb1.mono hbw.size) | exact hbw.drew.trans (hb1.mono hbw.drew.size)); obtain ⟨p3, p4, p5, p6⟩ := F.out w1 b1; clear hb1))
          all_goals (
            go_wp2_with fail
            go_meet
            exact ⟨rfl, b1⟩)
        case rest =>
          obtain ⟨rfl, b1⟩ := hcut
          clear x3 x4 y3 y4 SB hbw
          go_wp2_with fail
          exact ⟨⟨i + 1, by go_num, by omega, b1⟩, by simp [intOf]; omega⟩
      · have hge : ¬ ((i : Int) < (es.length : Int)) := by omega
        go_wp2
        go_ret
        exact ⟨rfl, hbw⟩
end Go.Proofs.YteibjmlimcpaoaaGreatDoor.V
