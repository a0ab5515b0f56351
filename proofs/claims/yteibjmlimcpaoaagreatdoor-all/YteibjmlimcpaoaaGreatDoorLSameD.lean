/-
  What the law's own sameT, sameN, sameR answer of lists and reports that are the same, wherever they lie: true; nothing that lay in memory turns.
-/
import Derived.Test.YteibjmlimcpaoaaGreatDoorEa
import Derived.Lib.OthersKept
set_option linter.unusedVariables false
set_option linter.unusedSimpArgs false
namespace Go.Proofs.YteibjmlimcpaoaaGreatDoor
open Go.RowKit Go.Sort

theorem below_drewN' {B : Nat} {a w : World} (h : Below B a w) : ∀ q, Below B a (w.drewN q)
  | 0 => h
  | q + 1 => (below_drewN' h q).drew
theorem allocOld' {w : World} {k : Nat} {o o' : Obj} (h : w.heap[k]? = some o) : (w.alloc o').heap[k]? = some o :=
  (Lib.alloc_old w o' k (Array.getElem?_eq_some_iff.1 h).1).trans h
theorem allocAt' (w : World) (o : Obj) : (w.alloc o).heap[w.heap.size]? = some o := by
  show (w.heap.push o)[w.heap.size]? = _
  simp
theorem allocAt'' (w : World) (o : Obj) (g : Nat) (hg : g = w.heap.size) : (w.alloc o).heap[g]? = some o := by
  subst hg
  exact allocAt' w o
theorem cellsAt' {k : Nat} {w : World} {cs : Array Value} {T : TypeId} {fz : Nat × Nat} (h : w.heap[k]? = some (.cells cs T fz)) (i : Nat) : w.cell? ⟨k, i, none⟩ = cs[i]? := by
  simp [World.cell?, h]

set_option maxRecDepth 100000 in
set_option maxHeartbeats 1000000 in
theorem sameT37 (va vb : Value) (l : List Tab) (w : World) (hl : l.length ≤ 1048576) (ha : RowIs w va l.length (tcells l)) (hb : RowIs w vb l.length (tcells l)) :
    Calls Tryz.prog 42 #[va, vb] w fun e w' => e = .returned (.bool true) ∧ Below w.heap.size w w' := by
  have HA := Lib.hid ha
  have HB := Lib.hid hb
  obtain ⟨ao, acap, rfl, ha⟩ := ha
  obtain ⟨bo, bcap, rfl, hb⟩ := hb
  clear ha hb
  go_enter Tryz.func42, Tryz.ntmps42
  go_wp2
  go_loopw [5] (fun is wr => ∃ (k : Nat), is = .int .i64 k ∧ k ≤ l.length ∧ Below w.heap.size w wr) (fun is _ => l.length - (intOf is).toNat)
  case atStart => exact ⟨0, rfl, Nat.zero_le _, Below.refl _ _⟩
  case round =>
    obtain ⟨k, rfl, hk, hbw⟩ := hrel
    by_cases hlt : k < l.length
    · obtain ⟨_, _, hao, ha⟩ := HA.out.on hbw
      cases hao
      obtain ⟨g, o, rfl, hca⟩ := ha (by omega)
      obtain ⟨_, _, hao, hb⟩ := HB.out.on hbw
      cases hao
      obtain ⟨g', o', rfl, hcb⟩ := hb (by omega)
      obtain ⟨⟨tag, st, sz⟩, hx⟩ : ∃ x, l[k]? = some x := ⟨_, List.getElem?_eq_getElem hlt⟩
      obtain ⟨t0, t1, t2⟩ := tcells_at l k _ hx
      have c0 := hca _ _ t0
      have c1 := hca _ _ t1
      have c2 := hca _ _ t2
      have d0 := hcb _ _ t0
      have d1 := hcb _ _ t1
      have d2 := hcb _ _ t2
      simp only at c0 c1 c2 d0 d1 d2
      rw [← Nat.add_assoc] at c1 c2 d1 d2
      clear ha hb hca hcb t0 t1 t2 hx
      have ik0 : (0 : Int) ≤ (k : Int) := by omega
      have ik1 : (k : Int) < (l.length : Int) := by omega
      go_wp2_with fail
      go_quiet (fail)
      go_wp2
      exact ⟨⟨k + 1, by go_num, by omega, below_drewN' hbw nq⟩, by simp [intOf]; omega⟩
    · have hge : ¬ ((k : Int) < (l.length : Int)) := by omega
      go_wp2
      go_ret
      exact ⟨rfl, hbw⟩
set_option maxRecDepth 100000 in
set_option maxHeartbeats 1000000 in
theorem sameN38 (va vb : Value) (l : List Nm) (w : World) (hl : l.length ≤ 1048576) (ha : RowIs w va l.length (ncells l)) (hb : RowIs w vb l.length (ncells l)) :
    Calls Tryz.prog 43 #[va, vb] w fun e w' => e = .returned (.bool true) ∧ Below w.heap.size w w' := by
  have HA := Lib.hid ha
  have HB := Lib.hid hb
  obtain ⟨ao, acap, rfl, ha⟩ := ha
  obtain ⟨bo, bcap, rfl, hb⟩ := hb
  clear ha hb
  go_enter Tryz.func43, Tryz.ntmps43
  go_wp2
  go_loopw [5] (fun is wr => ∃ (k : Nat), is = .int .i64 k ∧ k ≤ l.length ∧ Below w.heap.size w wr) (fun is _ => l.length - (intOf is).toNat)
  case atStart => exact ⟨0, rfl, Nat.zero_le _, Below.refl _ _⟩
  case round =>
    obtain ⟨k, rfl, hk, hbw⟩ := hrel
    by_cases hlt : k < l.length
    · obtain ⟨_, _, hao, ha⟩ := HA.out.on hbw
      cases hao
      obtain ⟨g, o, rfl, hca⟩ := ha (by omega)
      obtain ⟨_, _, hao, hb⟩ := HB.out.on hbw
      cases hao
      obtain ⟨g', o', rfl, hcb⟩ := hb (by omega)
      obtain ⟨⟨pl, en, la, id, st, ms, tx⟩, hx⟩ : ∃ x, l[k]? = some x := ⟨_, List.getElem?_eq_getElem hlt⟩
      obtain ⟨t0, t1, t2, t3, t4, t5, t6⟩ := ncells_at l k _ hx
      have c0 := hca _ _ t0
      have d0 := hcb _ _ t0
      have c1 := hca _ _ t1
      have d1 := hcb _ _ t1
      have c2 := hca _ _ t2
      have d2 := hcb _ _ t2
      have c3 := hca _ _ t3
      have d3 := hcb _ _ t3
      have c4 := hca _ _ t4
      have d4 := hcb _ _ t4
      have c5 := hca _ _ t5
      have d5 := hcb _ _ t5
      have c6 := hca _ _ t6
      have d6 := hcb _ _ t6
      simp only at c0 c1 c2 c3 c4 c5 c6 d0 d1 d2 d3 d4 d5 d6
      rw [← Nat.add_assoc] at c1 c2 c3 c4 c5 c6 d1 d2 d3 d4 d5 d6
      clear ha hb hca hcb t0 t1 t2 t3 t4 t5 t6 hx
      have ik0 : (0 : Int) ≤ (k : Int) := by omega
      have ik1 : (k : Int) < (l.length : Int) := by omega
      go_wp2_with fail
      go_quiet (fail)
      go_wp2
      exact ⟨⟨k + 1, by go_num, by omega, below_drewN' hbw nq⟩, by simp [intOf]; omega⟩
    · have hge : ¬ ((k : Int) < (l.length : Int)) := by omega
      go_wp2
      go_ret
      exact ⟨rfl, hbw⟩
set_option maxRecDepth 100000 in
set_option maxHeartbeats 2000000 in
theorem sameR18 (kind hs hf hu rs rv rb nm cs cf cc : Int) (T N T' N' : Value) (lt : List Tab) (ln : List Nm) (w : World)
    (hlt : lt.length ≤ 1048576) (hln : ln.length ≤ 1048576) (hT : RowIs w T lt.length (tcells lt)) (hN : RowIs w N ln.length (ncells ln)) (hT' : RowIs w T' lt.length (tcells lt)) (hN' : RowIs w N' ln.length (ncells ln)) :
    Calls Tryz.prog 15 #[.agg #[.int .i64 kind, T, .int .i64 hs, .int .i64 hf, .int .i64 hu, .int .i64 rs, .int .i64 rv, .int .i64 rb, .int .i64 nm, N, .int .i64 cs, .int .i64 cf, .int .i64 cc], .agg #[.int .i64 kind, T', .int .i64 hs, .int .i64 hf, .int .i64 hu, .int .i64 rs, .int .i64 rv, .int .i64 rb, .int .i64 nm, N', .int .i64 cs, .int .i64 cf, .int .i64 cc]] w
      fun e w' => e = .returned (.bool true) ∧ Below w.heap.size w w' := by
  have hTs : ∃ ao n cap, T = .slice ao n cap := by obtain ⟨ao, cap, h, _⟩ := hT; exact ⟨_, _, _, h⟩
  have hNs : ∃ ao n cap, N = .slice ao n cap := by obtain ⟨ao, cap, h, _⟩ := hN; exact ⟨_, _, _, h⟩
  have hTs' : ∃ ao n cap, T' = .slice ao n cap := by obtain ⟨ao, cap, h, _⟩ := hT'; exact ⟨_, _, _, h⟩
  have hNs' : ∃ ao n cap, N' = .slice ao n cap := by obtain ⟨ao, cap, h, _⟩ := hN'; exact ⟨_, _, _, h⟩
  obtain ⟨tao, tn, tcap, hTe⟩ := hTs
  obtain ⟨nao, nn, ncap, hNe⟩ := hNs
  obtain ⟨tao', tn', tcap', hTe'⟩ := hTs'
  obtain ⟨nao', nn', ncap', hNe'⟩ := hNs'
  subst hTe hNe hTe' hNe'
  have A := Lib.hid (fun (w1 : World) (h : Below w.heap.size w w1) => sameT37 (.slice tao tn tcap) (.slice tao' tn' tcap') lt w1 hlt (hT.on h) (hT'.on h))
  have C := Lib.hid (fun (w1 : World) (h : Below w.heap.size w w1) => sameN38 (.slice nao nn ncap) (.slice nao' nn' ncap') ln w1 hln (hN.on h) (hN'.on h))
  clear hT hN hT' hN'
  have a0 := allocOld' (o' := .cells #[.int .i64 kind, .slice tao' tn' tcap', .int .i64 hs, .int .i64 hf, .int .i64 hu, .int .i64 rs, .int .i64 rv, .int .i64 rb, .int .i64 nm, .slice nao' nn' ncap', .int .i64 cs, .int .i64 cf, .int .i64 cc] 39) (allocAt' w (.cells #[.int .i64 kind, .slice tao tn tcap, .int .i64 hs, .int .i64 hf, .int .i64 hu, .int .i64 rs, .int .i64 rv, .int .i64 rb, .int .i64 nm, .slice nao nn ncap, .int .i64 cs, .int .i64 cf, .int .i64 cc] 39))
  have a1 := allocAt'' (w.alloc (.cells #[.int .i64 kind, .slice tao tn tcap, .int .i64 hs, .int .i64 hf, .int .i64 hu, .int .i64 rs, .int .i64 rv, .int .i64 rb, .int .i64 nm, .slice nao nn ncap, .int .i64 cs, .int .i64 cf, .int .i64 cc] 39)) (.cells #[.int .i64 kind, .slice tao' tn' tcap', .int .i64 hs, .int .i64 hf, .int .i64 hu, .int .i64 rs, .int .i64 rv, .int .i64 rb, .int .i64 nm, .slice nao' nn' ncap', .int .i64 cs, .int .i64 cf, .int .i64 cc] 39) (w.heap.size + 1) (by simp)
  have b0 : Below w.heap.size w ((w.alloc (.cells #[.int .i64 kind, .slice tao tn tcap, .int .i64 hs, .int .i64 hf, .int .i64 hu, .int .i64 rs, .int .i64 rv, .int .i64 rb, .int .i64 nm, .slice nao nn ncap, .int .i64 cs, .int .i64 cf, .int .i64 cc] 39)).alloc (.cells #[.int .i64 kind, .slice tao' tn' tcap', .int .i64 hs, .int .i64 hf, .int .i64 hu, .int .i64 rs, .int .i64 rv, .int .i64 rb, .int .i64 nm, .slice nao' nn' ncap', .int .i64 cs, .int .i64 cf, .int .i64 cc] 39)) := ((Below.refl _ _).alloc (Nat.le_refl _) _).alloc (by simp) _
  go_enter Tryz.func15, Tryz.ntmps15
  go_wp2_with (go_at_call 42; refine (A.out _ b0).mono ?_; rintro e w1 ⟨rfl, hb1⟩; refine Hid.out ?_)
  have b1 := b0.trans (hb1.mono b0.size)
  have c0 := belowAt' hb1 a0
  have c1 := belowAt' hb1 a1
  have x9 := cellsAt' c0 9
  have y9 := cellsAt' c1 9
  simp only [List.getElem?_toArray, List.getElem?_cons_zero, List.getElem?_cons_succ] at x9 y9
  refine Lib.hid ?_
  go_wp2_with (go_at_call 43; refine (C.out _ b1).mono ?_; rintro e w2 ⟨rfl, hb2⟩; refine Hid.out ?_)
  clear x9 y9
  have b2 := b1.trans (hb2.mono b1.size)
  have e0 := belowAt' hb2 c0
  have e1 := belowAt' hb2 c1
  clear a0 a1 b0 b1 c0 c1 hb1 hb2 A C
  have x0 := cellsAt' e0 0
  have y0 := cellsAt' e1 0
  have x2 := cellsAt' e0 2
  have y2 := cellsAt' e1 2
  have x3 := cellsAt' e0 3
  have y3 := cellsAt' e1 3
  have x4 := cellsAt' e0 4
  have y4 := cellsAt' e1 4
  have x5 := cellsAt' e0 5
  have y5 := cellsAt' e1 5
  have x6 := cellsAt' e0 6
  have y6 := cellsAt' e1 6
  have x7 := cellsAt' e0 7
  have y7 := cellsAt' e1 7
  have x8 := cellsAt' e0 8
  have y8 := cellsAt' e1 8
  have x10 := cellsAt' e0 10
  have y10 := cellsAt' e1 10
  have x11 := cellsAt' e0 11
  have y11 := cellsAt' e1 11
  have x12 := cellsAt' e0 12
  have y12 := cellsAt' e1 12
  simp only [List.getElem?_toArray, List.getElem?_cons_zero, List.getElem?_cons_succ] at x0 y0 x2 y2 x3 y3 x4 y4 x5 y5 x6 y6 x7 y7 x8 y8 x10 y10 x11 y11 x12 y12
  clear e0 e1
  refine Lib.hid ?_
  go_wp2
  go_ret
  exact ⟨rfl, b2⟩
end Go.Proofs.YteibjmlimcpaoaaGreatDoor
