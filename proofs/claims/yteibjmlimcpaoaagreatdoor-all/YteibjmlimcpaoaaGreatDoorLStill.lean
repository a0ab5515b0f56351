/-
  What the law's own Book.still answers of a book whose lists are as their owner made them: true; nothing that lay in memory turns.
-/
import Derived.Test.YteibjmlimcpaoaaGreatDoorLBkA
import Derived.Test.YteibjmlimcpaoaaGreatDoorLSameD
set_option linter.unusedVariables false
set_option linter.unusedSimpArgs false
namespace Go.Proofs.YteibjmlimcpaoaaGreatDoor
open Go.RowKit Go.Sort

theorem own_slice {w : World} {B e size n : Nat} {v : Value} {xs : List Value} (h : w.ownsRow B e size v n xs) : ∃ ao cap, v = .slice ao n cap ∧ n ≤ maxLen := by
  rcases h.2 with ⟨hv, h0⟩ | ⟨_, _, _, hv, _, _, h1, h2, _⟩
  · exact ⟨none, 0, by rw [hv, h0], by omega⟩
  · exact ⟨_, _, hv, Nat.le_trans h1 h2⟩
theorem wrapN (x : Int) (h0 : -9223372036854775808 ≤ x) (h1 : x < 9223372036854775808) : IntKind.i64.wrap x = x := by
  rw [IntKind.wrap_i64]
  omega

set_option maxRecDepth 100000 in
set_option maxHeartbeats 4000000 in
theorem still20 (B bb n : Nat) (es : List Ent) (w : World) (he : es.length ≤ 5864062014640) (hqn : ∀ e ∈ es, e.q ≤ 5864062014640) (hb : BookIs B bb es n w) :
    Calls Tryz.prog 19 #[.pointer (some ⟨bb, 0, none⟩)] w fun e w' => e = .returned (.bool true) ∧ Below w.heap.size w w' := by
  obtain ⟨hB, VT, VN, VO, hq, o28, o33, o3, hes⟩ := hb
  obtain ⟨Ta, Tc, rfl, _⟩ := own_slice o28
  obtain ⟨Na, Nc, rfl, _⟩ := own_slice o33
  obtain ⟨Oa, Oc, rfl, _⟩ := own_slice o3
  have HQ := Lib.hid (And.intro hq (And.intro o28 (And.intro o33 (And.intro o3 (And.intro hes hqn)))))
  clear hq o28 o33 o3 hes hqn
  go_enter Tryz.func19, Tryz.ntmps19
  go_wp2
  go_loopw [3] (fun is wr => ∃ (i : Nat), is = .int .i64 (i : Int) ∧ i ≤ es.length ∧ Below w.heap.size w wr) (fun is _ => es.length - (intOf is).toNat)
  case atStart => exact ⟨0, rfl, Nat.zero_le _, Below.refl _ _⟩
  case round =>
    obtain ⟨i, rfl, hi, hbw⟩ := hrel
    by_cases hlt : i < es.length
    · obtain ⟨gT, cT, _, hv, _, _⟩ := own_form HQ.out.2.1 (by omega)
      cases hv
      obtain ⟨gN, cN, _, hv, _, _⟩ := own_form HQ.out.2.2.1 (by omega)
      cases hv
      obtain ⟨gO, cO, _, hv, _, _⟩ := own_form HQ.out.2.2.2.1 (by omega)
      cases hv
      obtain ⟨⟨q, T, tn, N, nn⟩, hie⟩ : ∃ e, es[i]? = some e := ⟨_, List.getElem?_eq_getElem hlt⟩
      have hmem := List.mem_of_getElem? hie
      have hE := HQ.out.2.2.2.2.1 _ hmem
      have hqq : q ≤ 5864062014640 := HQ.out.2.2.2.2.2 _ hmem
      obtain ⟨hE1, hE2⟩ := hE
      unfold OwnT at hE1
      unfold OwnN at hE2
      simp only at hE1 hE2
      obtain ⟨ta, tc, rfl, htn⟩ := own_slice hE1
      obtain ⟨na, nc, rfl, hnn⟩ := own_slice hE2
      have htn' : tn ≤ 9223372036854775807 := by unfold maxLen at htn; omega
      have hnn' : nn ≤ 9223372036854775807 := by unfold maxLen at hnn; omega
      have F : Hid (∀ w1, Below w.heap.size w w1 → w1.cell? ⟨bb, 1, none⟩ = some (.slice (some ⟨gT, 0, none⟩) es.length Tc) ∧ w1.cell? ⟨gT, i, none⟩ = some (.slice ta tn tc) ∧ w1.cell? ⟨bb, 2, none⟩ = some (.slice (some ⟨gN, 0, none⟩) es.length Nc) ∧ w1.cell? ⟨gN, i, none⟩ = some (.slice na nn nc) ∧ w1.cell? ⟨bb, 5, none⟩ = some (.slice (some ⟨gO, 0, none⟩) es.length Oc) ∧ w1.cell? ⟨gO, i, none⟩ = some (.int .i64 (q : Int))) := by
        intro w1 hb1
        have q1 := belowAt' hb1 HQ.out.1
        have x1 := cellsAt q1 1
        have x2 := cellsAt q1 2
        have x5 := cellsAt q1 5
        simp only [List.getElem?_toArray, List.getElem?_cons_zero, List.getElem?_cons_succ] at x1 x2 x5
        have y1 := (own_any HQ.out.2.1 hb1).cellAt i (by omega)
        have y2 := (own_any HQ.out.2.2.1 hb1).cellAt i (by omega)
        have y5 := (own_any HQ.out.2.2.2.1 hb1).cellAt i (by omega)
        rw [List.getElem?_map, hie] at y1 y2 y5
        exact ⟨x1, y1, x2, y2, x5, y5⟩
      have GT : Hid (∀ w1 k, Below w.heap.size w w1 → k < tn → ∃ g, ta = some ⟨g, 0, none⟩ ∧ w1.cell? ⟨g, k * 3, none⟩ = some (.string ⟨#[]⟩) ∧ w1.cell? ⟨g, k * 3 + 1, none⟩ = some (.int .i64 0) ∧ w1.cell? ⟨g, k * 3 + 2, none⟩ = some (.int .i64 (-(q : Int)))) := by
        intro w1 k hb1 hk
        obtain ⟨g, _, _, hv, _, _⟩ := own_form hE1 (by omega)
        cases hv
        have o := own_any hE1 hb1
        obtain ⟨t0, t1, t2⟩ := tcells_at (List.replicate tn (mrkT q)) k (mrkT q) (by simp [List.getElem?_replicate, hk])
        have c0 := o.cellAt (k * 3) (by omega)
        have c1 := o.cellAt (k * 3 + 1) (by omega)
        have c2 := o.cellAt (k * 3 + 2) (by omega)
        exact ⟨g, rfl, c0.trans t0, c1.trans t1, c2.trans t2⟩
      have GN : Hid (∀ w1 k, Below w.heap.size w w1 → k < nn → ∃ g, na = some ⟨g, 0, none⟩ ∧ w1.cell? ⟨g, k * 7, none⟩ = some (.int .i64 0) ∧ w1.cell? ⟨g, k * 7 + 1, none⟩ = some (.int .i64 0) ∧ w1.cell? ⟨g, k * 7 + 2, none⟩ = some (.int .i64 0) ∧ w1.cell? ⟨g, k * 7 + 3, none⟩ = some (.int .i64 (-(q : Int))) ∧ w1.cell? ⟨g, k * 7 + 4, none⟩ = some (.int .i64 0) ∧ w1.cell? ⟨g, k * 7 + 5, none⟩ = some (.int .i64 0) ∧ w1.cell? ⟨g, k * 7 + 6, none⟩ = some (.string ⟨#[]⟩)) := by
        intro w1 k hb1 hk
        obtain ⟨g, _, _, hv, _, _⟩ := own_form hE2 (by omega)
        cases hv
        have o := own_any hE2 hb1
        obtain ⟨t0, t1, t2, t3, t4, t5, t6⟩ := ncells_at (List.replicate nn (mrkN q)) k (mrkN q) (by simp [List.getElem?_replicate, hk])
        exact ⟨g, rfl, (o.cellAt (k * 7) (by omega)).trans t0, (o.cellAt (k * 7 + 1) (by omega)).trans t1, (o.cellAt (k * 7 + 2) (by omega)).trans t2, (o.cellAt (k * 7 + 3) (by omega)).trans t3, (o.cellAt (k * 7 + 4) (by omega)).trans t4, (o.cellAt (k * 7 + 5) (by omega)).trans t5, (o.cellAt (k * 7 + 6) (by omega)).trans t6⟩
      clear hE1 hE2 hie hmem htn hnn
      have wq := wrapN (-(q : Int)) (by omega) (by omega)
      have ii0 : (0 : Int) ≤ (i : Int) := by omega
      have ii1 : (i : Int) < (es.length : Int) := by omega
      obtain ⟨x1, y1, x2, y2, x5, y5⟩ := F.out _ hbw
      go_wp2
      clear x1 y1 x2 y2 x5 y5
      go_loopw [4] (fun ks wr => ∃ (k : Nat), ks = .int .i64 (k : Int) ∧ k ≤ tn ∧ Below w.heap.size w wr) (fun ks _ => tn - (intOf ks).toNat)
      case atStart => exact ⟨0, rfl, Nat.zero_le _, hbw⟩
      case round =>
        clear hbw
        obtain ⟨k, rfl, hk, hbw⟩ := hrel
        obtain ⟨x1, y1, x2, y2, x5, y5⟩ := F.out _ hbw
        by_cases hklt : k < tn
        · obtain ⟨g, rfl, c0, c1, c2⟩ := GT.out _ k hbw hklt
          have ik0 : (0 : Int) ≤ (k : Int) := by omega
          have ik1 : (k : Int) < (tn : Int) := by omega
          go_wp2_with fail
          go_quiet (fail)
          go_wp2
          exact ⟨⟨k + 1, by go_num, by omega, below_drewN' hbw nq⟩, by simp [intOf]; omega⟩
        · have hke : k = tn := by omega
          subst hke
          have hge : ¬ ((k : Int) < (k : Int)) := by omega
          go_wp2
          clear x1 y1 x2 y2 x5 y5
          go_loopw [5] (fun ks wr => ∃ (k : Nat), ks = .int .i64 (k : Int) ∧ k ≤ nn ∧ Below w.heap.size w wr) (fun ks _ => nn - (intOf ks).toNat)
          case atStart => exact ⟨0, rfl, Nat.zero_le _, hbw⟩
          case round =>
            clear hbw
            obtain ⟨k, rfl, hk, hbw⟩ := hrel
            obtain ⟨x1, y1, x2, y2, x5, y5⟩ := F.out _ hbw
            by_cases hklt : k < nn
            · obtain ⟨g, rfl, c0, c1, c2, c3, c4, c5, c6⟩ := GN.out _ k hbw hklt
              have ik0 : (0 : Int) ≤ (k : Int) := by omega
              have ik1 : (k : Int) < (nn : Int) := by omega
              go_wp2_with fail
              go_quiet (fail)
              go_wp2
              exact ⟨⟨k + 1, by go_num, by omega, below_drewN' hbw nq⟩, by simp [intOf]; omega⟩
            · have hke : k = nn := by omega
              subst hke
              have hge : ¬ ((k : Int) < (k : Int)) := by omega
              go_wp2
              exact ⟨⟨i + 1, by go_num, by omega, hbw⟩, by simp [intOf]; omega⟩
    · have hke : i = es.length := by omega
      have hge : ¬ ((i : Int) < (es.length : Int)) := by omega
      have q1 := belowAt' hbw HQ.out.1
      have x1 := cellsAt q1 1
      have x3 := cellsAt q1 3
      simp only [List.getElem?_toArray, List.getElem?_cons_zero, List.getElem?_cons_succ] at x1 x3
      clear q1
      go_wp2
      clear x1
      go_loopw [6] (fun ks wr => ks = .int .i64 0 ∧ Below w.heap.size w wr) (fun ks _ => 0)
      case atStart => exact ⟨rfl, hbw⟩
      case round =>
        clear hbw
        obtain ⟨rfl, hbw⟩ := hrel
        have q1 := belowAt' hbw HQ.out.1
        have x3 := cellsAt q1 3
        simp only [List.getElem?_toArray, List.getElem?_cons_zero, List.getElem?_cons_succ] at x3
        clear q1
        go_wp2
        go_ret
        exact ⟨rfl, hbw⟩
end Go.Proofs.YteibjmlimcpaoaaGreatDoor
