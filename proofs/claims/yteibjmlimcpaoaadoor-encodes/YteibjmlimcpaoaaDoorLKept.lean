/-
  What the law's own keptReport answers of a report that lentReport made and that stayed as it was: true; nothing that lay in memory turns.
-/
import Derived.Test.YteibjmlimcpaoaaDoorLLent
import Derived.Test.YteibjmlimcpaoaaDoorLSame
set_option linter.unusedVariables false
set_option linter.unusedSimpArgs false
namespace Go.Proofs.YteibjmlimcpaoaaDoor
open Go.RowKit Go.Sort

theorem rowT {w : World} {g : Nat} {ct : Array Value} {fz : Nat × Nat} (lt r : List Tab) (m : Nat) (h : w.heap[g]? = some (.cells ct 77 fz)) (hc : ct.toList = tcells (lt ++ r)) : RowIs w (.slice (some ⟨g, 0, none⟩) lt.length m) lt.length (tcells lt) := by
  refine ⟨_, _, rfl, fun _ => ⟨g, 0, rfl, fun j u hj => ?_⟩⟩
  rw [Nat.zero_add, cellsAt h, ← Array.getElem?_toList, hc, tcells_append, List.getElem?_append_left (List.getElem?_eq_some_iff.1 hj).1]
  exact hj
theorem rowN {w : World} {g : Nat} {ct : Array Value} {fz : Nat × Nat} (lt r : List Nm) (m : Nat) (h : w.heap[g]? = some (.cells ct 79 fz)) (hc : ct.toList = ncells (lt ++ r)) : RowIs w (.slice (some ⟨g, 0, none⟩) lt.length m) lt.length (ncells lt) := by
  refine ⟨_, _, rfl, fun _ => ⟨g, 0, rfl, fun j u hj => ?_⟩⟩
  rw [Nat.zero_add, cellsAt h, ← Array.getElem?_toList, hc, ncells_append, List.getElem?_append_left (List.getElem?_eq_some_iff.1 hj).1]
  exact hj

set_option maxRecDepth 100000 in
set_option maxHeartbeats 2000000 in
theorem kept14 (kind hs hf hu rs rv rb nm cs cf cc : Int) (T N : Value) (gt gn : Nat) (ct cn : Array Value) (lt : List Tab) (ln : List Nm) (w : World)
    (hlt : lt.length ≤ 4398046510976) (hln : ln.length ≤ 2199023255488) (hT : RowIs w T lt.length (tcells lt)) (hN : RowIs w N ln.length (ncells ln))
    (hgt : w.heap[gt]? = some (.cells ct 77 (0, 0))) (hct : ct.toList = tcells (lt ++ List.replicate 8 padT)) (hgn : w.heap[gn]? = some (.cells cn 79 (0, 0))) (hcn : cn.toList = ncells (ln ++ List.replicate 8 padN)) :
    Calls Tryd.prog 16 #[.agg #[.int .i64 kind, .slice (some ⟨gt, 0, none⟩) lt.length (lt.length + 8), .int .i64 hs, .int .i64 hf, .int .i64 hu, .int .i64 rs, .int .i64 rv, .int .i64 rb, .int .i64 nm, .slice (some ⟨gn, 0, none⟩) ln.length (ln.length + 8), .int .i64 cs, .int .i64 cf, .int .i64 cc], .agg #[.int .i64 kind, T, .int .i64 hs, .int .i64 hf, .int .i64 hu, .int .i64 rs, .int .i64 rv, .int .i64 rb, .int .i64 nm, N, .int .i64 cs, .int .i64 cf, .int .i64 cc]] w
      fun e w' => e = .returned (.bool true) ∧ Below w.heap.size w w' := by
  have S := Lib.hid (fun (w1 : World) (h : Below w.heap.size w w1) => sameR18 kind hs hf hu rs rv rb nm cs cf cc (.slice (some ⟨gt, 0, none⟩) lt.length (lt.length + 8)) (.slice (some ⟨gn, 0, none⟩) ln.length (ln.length + 8)) T N lt ln w1 (by omega) (by omega)
    ((rowT lt _ _ hgt hct).on h) ((rowN ln _ _ hgn hcn).on h) (hT.on h) (hN.on h))
  have hTs : ∃ ao cap, T = .slice ao lt.length cap := by obtain ⟨ao, cap, h, _⟩ := hT; exact ⟨_, _, h⟩
  have hNs : ∃ ao cap, N = .slice ao ln.length cap := by obtain ⟨ao, cap, h, _⟩ := hN; exact ⟨_, _, h⟩
  obtain ⟨tao, tcap, hTe⟩ := hTs
  obtain ⟨nao, ncap, hNe⟩ := hNs
  subst hTe hNe
  clear hT hN
  have HCT := Lib.hid hct
  have HCN := Lib.hid hcn
  clear hct hcn
  have w1 := wrapL ((lt.length : Int) + 8) (by omega) (by omega)
  have w2 := wrapL ((ln.length : Int) + 8) (by omega) (by omega)
  have a0 := allocOldN (o' := .cells #[.int .i64 kind, .slice tao lt.length tcap, .int .i64 hs, .int .i64 hf, .int .i64 hu, .int .i64 rs, .int .i64 rv, .int .i64 rb, .int .i64 nm, .slice nao ln.length ncap, .int .i64 cs, .int .i64 cf, .int .i64 cc] 37) (allocAt w (.cells #[.int .i64 kind, .slice (some ⟨gt, 0, none⟩) lt.length (lt.length + 8), .int .i64 hs, .int .i64 hf, .int .i64 hu, .int .i64 rs, .int .i64 rv, .int .i64 rb, .int .i64 nm, .slice (some ⟨gn, 0, none⟩) ln.length (ln.length + 8), .int .i64 cs, .int .i64 cf, .int .i64 cc] 37))
  have a1 := allocAtN (w.alloc (.cells #[.int .i64 kind, .slice (some ⟨gt, 0, none⟩) lt.length (lt.length + 8), .int .i64 hs, .int .i64 hf, .int .i64 hu, .int .i64 rs, .int .i64 rv, .int .i64 rb, .int .i64 nm, .slice (some ⟨gn, 0, none⟩) ln.length (ln.length + 8), .int .i64 cs, .int .i64 cf, .int .i64 cc] 37)) (.cells #[.int .i64 kind, .slice tao lt.length tcap, .int .i64 hs, .int .i64 hf, .int .i64 hu, .int .i64 rs, .int .i64 rv, .int .i64 rb, .int .i64 nm, .slice nao ln.length ncap, .int .i64 cs, .int .i64 cf, .int .i64 cc] 37) (w.heap.size + 1) (by simp)
  have b0 : Below w.heap.size w ((w.alloc (.cells #[.int .i64 kind, .slice (some ⟨gt, 0, none⟩) lt.length (lt.length + 8), .int .i64 hs, .int .i64 hf, .int .i64 hu, .int .i64 rs, .int .i64 rv, .int .i64 rb, .int .i64 nm, .slice (some ⟨gn, 0, none⟩) ln.length (ln.length + 8), .int .i64 cs, .int .i64 cf, .int .i64 cc] 37)).alloc (.cells #[.int .i64 kind, .slice tao lt.length tcap, .int .i64 hs, .int .i64 hf, .int .i64 hu, .int .i64 rs, .int .i64 rv, .int .i64 rb, .int .i64 nm, .slice nao ln.length ncap, .int .i64 cs, .int .i64 cf, .int .i64 cc] 37)) := ((Below.refl _ _).alloc (Nat.le_refl _) _).alloc (by simp) _
  go_enter Tryd.func16, Tryd.ntmps16
  go_wp2_with (go_at_call 20; refine (S.out _ b0).mono ?_; rintro e w3 ⟨rfl, hb3⟩; refine Hid.out ?_)
  have b3 := b0.trans (hb3.mono b0.size)
  have c0 := belowAt' hb3 a0
  have c1 := belowAt' hb3 a1
  have tg := belowAt' b3 hgt
  have ng := belowAt' b3 hgn
  clear a0 a1 b0 hb3 S hgt hgn
  have x1 := cellsAt c0 1
  have y1 := cellsAt c1 1
  simp only [List.getElem?_toArray, List.getElem?_cons_zero, List.getElem?_cons_succ] at x1 y1
  refine Lib.hid ?_
  go_wp2
  go_loopw [5, 7] (fun oks is wr => ∃ (k : Nat), oks = .bool true ∧ is = .int .i64 ((lt.length + k : Nat) : Int) ∧ k ≤ 8 ∧ wr = w3) (fun _ is _ => lt.length + 8 - (intOf is).toNat)
  case atStart => exact ⟨0, rfl, rfl, by omega, rfl⟩
  case round =>
    obtain ⟨k, rfl, rfl, hk, rfl⟩ := hrel
    by_cases hklt : k < 8
    · have hx : (lt ++ List.replicate 8 padT)[lt.length + k]? = some padT := by
        rw [List.getElem?_append_right (by omega), List.getElem?_replicate, if_pos (by omega)]
      obtain ⟨t0, t1, t2⟩ := tcells_at _ _ _ hx
      rw [← HCT.out] at t0 t1 t2
      have z0 := cellsAt tg ((lt.length + k) * 3)
      have z1 := cellsAt tg ((lt.length + k) * 3 + 1)
      have z2 := cellsAt tg ((lt.length + k) * 3 + 2)
      rw [← Array.getElem?_toList] at z0 z1 z2
      rw [t0] at z0
      rw [t1] at z1
      rw [t2] at z2
      simp only [padT] at z0 z1 z2
      clear hx t0 t1 t2
      have i0 : ((lt.length : Int) + (k : Int)) < (lt.length : Int) + 8 := by omega
      have i1 : (0 : Int) ≤ (lt.length : Int) + (k : Int) := by omega
      go_wp2
      refine ⟨⟨k + 1, rfl, by go_num, by omega, by first | rfl | trivial⟩, by simp [intOf]; omega⟩
    · obtain rfl : k = 8 := by omega
      clear x1 y1
      have x9 := cellsAt c0 9
      have y9 := cellsAt c1 9
      simp only [List.getElem?_toArray, List.getElem?_cons_zero, List.getElem?_cons_succ] at x9 y9
      go_wp2
      go_loopw [5, 9] (fun oks is wr' => ∃ (k : Nat), oks = .bool true ∧ is = .int .i64 ((ln.length + k : Nat) : Int) ∧ k ≤ 8 ∧ wr' = wr) (fun _ is _ => ln.length + 8 - (intOf is).toNat)
      case atStart => exact ⟨0, rfl, rfl, by omega, rfl⟩
      case round =>
        obtain ⟨k, rfl, rfl, hk, rfl⟩ := hrel
        by_cases hklt : k < 8
        · have hx : (ln ++ List.replicate 8 padN)[ln.length + k]? = some padN := by
            rw [List.getElem?_append_right (by omega), List.getElem?_replicate, if_pos (by omega)]
          obtain ⟨t0, t1, t2, t3, t4, t5, t6⟩ := ncells_at _ _ _ hx
          rw [← HCN.out] at t0 t1 t2 t3 t4 t5 t6
          have z0 := cellsAt ng ((ln.length + k) * 7)
          have z1 := cellsAt ng ((ln.length + k) * 7 + 1)
          have z2 := cellsAt ng ((ln.length + k) * 7 + 2)
          have z3 := cellsAt ng ((ln.length + k) * 7 + 3)
          have z4 := cellsAt ng ((ln.length + k) * 7 + 4)
          have z5 := cellsAt ng ((ln.length + k) * 7 + 5)
          have z6 := cellsAt ng ((ln.length + k) * 7 + 6)
          rw [← Array.getElem?_toList] at z0 z1 z2 z3 z4 z5 z6
          rw [t0] at z0
          rw [t1] at z1
          rw [t2] at z2
          rw [t3] at z3
          rw [t4] at z4
          rw [t5] at z5
          rw [t6] at z6
          simp only [padN] at z0 z1 z2 z3 z4 z5 z6
          clear hx t0 t1 t2 t3 t4 t5 t6
          have i0 : ((ln.length : Int) + (k : Int)) < (ln.length : Int) + 8 := by omega
          have i1 : (0 : Int) ≤ (ln.length : Int) + (k : Int) := by omega
          go_wp2
          refine ⟨⟨k + 1, rfl, by go_num, by omega, by first | rfl | trivial⟩, by simp [intOf]; omega⟩
        · obtain rfl : k = 8 := by omega
          go_wp2
          go_ret
          exact ⟨rfl, b3⟩
end Go.Proofs.YteibjmlimcpaoaaDoor
