/-
  What the laws' own two, four and small answer: nothing that lay in memory turns.
  What the laws' own same answers of two reports that are the same, wherever their lists lie: true; of any report and the empty one: true if it is that. Nothing that lay in memory turns.
  What the laws' own same answers of a report and an empty one whose lists lie wherever they lie.
  What the laws' own least answers. Nothing that lay in memory turns.
-/
import Derived.Test.YteibjmlimcpaoaaDoorEa
import Derived.Test.YteibjmlimcpaoaaDoorPa
import Derived.Test.YteibjmlimcpaoaaDoorWb
set_option linter.unusedVariables false
set_option linter.unusedSimpArgs false
namespace Go.Proofs.YteibjmlimcpaoaaDoor.K
open Go.RowKit Go.Sort

set_option maxRecDepth 100000 in
set_option maxHeartbeats 400000 in
theorem twoK (n : Nat) (w : World) (hn : n < 4294967296) :
    Calls Tryd.prog 60 #[.int .i64 n] w fun e w' => e = .returned (.string ⟨(w2 n).toArray⟩) ∧ Below w.heap.size w w' := by
  have hc := run_conv w (w2 n) #[.int .u8 ((n : Int) / 256 % 256), .int .u8 ((n : Int) % 256)] (by simp [Lib.byteCells, w2]) 2 rfl
  generalize w2 n = l at *
  go_enter Tryd.func60, Tryd.ntmps60
  go_wp2
  go_ret
  exact ⟨rfl, (Below.refl _ _).alloc (Nat.le_refl _) _⟩

set_option maxRecDepth 100000 in
set_option maxHeartbeats 400000 in
theorem fourK (n : Nat) (w : World) (hn : n < 4294967296) :
    Calls Tryd.prog 61 #[.int .i64 n] w fun e w' => e = .returned (.string ⟨(w4 n).toArray⟩) ∧ Below w.heap.size w w' := by
  have A := Lib.hid (fun w => twoK (n / 65536) w (by omega))
  rw [show ((n / 65536 : Nat) : Int) = (n : Int) / 65536 by omega] at A
  have B := Lib.hid (fun w => twoK n w hn)
  have e : w4 n = w2 (n / 65536) ++ w2 n := rfl
  rw [e]
  have l1 : (w2 (n / 65536)).length = 2 := rfl
  have l2 : (w2 n).length = 2 := rfl
  generalize w2 (n / 65536) = x at *
  generalize w2 n = y at *
  have l1' : x.length ≤ 2 := by omega
  have l2' : y.length ≤ 2 := by omega
  clear e l1 l2
  go_enter Tryd.func61, Tryd.ntmps61
  go_wp2_with (go_at_call 60; refine (A.out _).mono ?_; rintro e w1 ⟨rfl, hb1⟩; refine Hid.out ?_)
  refine Lib.hid ?_
  go_wp2_with (go_at_call 60; refine (B.out _).mono ?_; rintro e w2 ⟨rfl, hb2⟩)
  go_ret
  refine ⟨ret_str ?_, hb1.trans (hb2.mono hb1.size)⟩
  rw [ba_append]
  simp

theorem chain {w w1 w2 : World} (h : Below w.heap.size w w1) (h2 : Below w1.heap.size w1 w2) : Below w.heap.size w w2 := h.trans (h2.mono h.size)

set_option maxRecDepth 100000 in
set_option maxHeartbeats 4000000 in
theorem smallK (w : World) :
    Calls Tryd.prog 47 #[] w fun e w' => e = .returned (.string ⟨smallL.toArray⟩) ∧ Below w.heap.size w w' := by
  have A := Lib.hid (fun (n : Int) (w w1 : World) (h : 0 ≤ n ∧ n < 100) (hb : Below w.heap.size w w1) => (show Calls Tryd.prog 60 #[.int .i64 n] w1 fun e w' => e = .returned (.string ⟨(w2 n.toNat).toArray⟩) ∧ Below w.heap.size w w' by
    have e : n = (n.toNat : Int) := by omega
    rw [e]
    exact (twoK n.toNat w1 (by omega)).mono fun e w' ⟨h1, h2⟩ => ⟨h1, chain hb h2⟩))
  have B := Lib.hid (fun (n : Int) (w w1 : World) (h : 0 ≤ n ∧ n < 100) (hb : Below w.heap.size w w1) => (show Calls Tryd.prog 61 #[.int .i64 n] w1 fun e w' => e = .returned (.string ⟨(w4 n.toNat).toArray⟩) ∧ Below w.heap.size w w' by
    have e : n = (n.toNat : Int) := by omega
    rw [e]
    exact (fourK n.toNat w1 (by omega)).mono fun e w' ⟨h1, h2⟩ => ⟨h1, chain hb h2⟩))
  have h0 : Below w.heap.size w w := Below.refl _ _
  go_enter Tryd.func47, Tryd.ntmps47
  go_wp2_with (first | (go_at_call 60; refine (A.out _ w _ (by decide) (by assumption)).mono ?_; rintro e w1 ⟨rfl, hb1⟩) | (go_at_call 61; refine (B.out _ w _ (by decide) (by assumption)).mono ?_; rintro e w1 ⟨rfl, hb1⟩))
  go_ret
  exact ⟨ret_str (by kernel_rfl), by assumption⟩
end Go.Proofs.YteibjmlimcpaoaaDoor.K

set_option linter.unusedVariables false
set_option linter.unusedSimpArgs false
namespace Go.Proofs.YteibjmlimcpaoaaDoor.K
open Go.RowKit Go.Sort
open Go.Proofs.YteibjmlimcpaoaaDoor.W (at_below at_alloc new_at below_alloc)

theorem below_drewN' {B : Nat} {a w : World} (h : Below B a w) : ∀ q, Below B a (w.drewN q)
  | 0 => h
  | q + 1 => (below_drewN' h q).drew
theorem cellsK {k : Nat} {w : World} {cs : Array Value} {T : TypeId} {fz : Nat × Nat} (h : w.heap[k]? = some (.cells cs T fz)) (i : Nat) : w.cell? ⟨k, i, none⟩ = cs[i]? := by
  simp [World.cell?, h]
theorem ne_of_bne {a : Int} (h : (a != 0) = true) : ¬ a = 0 := by simpa using h
theorem eq_of_bne {a : Int} (h : (a != 0) = false) : a = 0 := by simpa using h
theorem new_at1 (w : World) (o p : Obj) : ((w.alloc o).alloc p).heap[w.heap.size + 1]? = some p := by
  have := new_at (w.alloc o) p
  simpa using this
set_option maxRecDepth 100000 in
set_option maxHeartbeats 4000000 in
theorem sameK (kind hs hf hu rs rv rb nm cs cf cc : Int) (T N T' N' : Value) (lt : List Tab) (ln : List Nm) (w : World)
    (hlt : lt.length ≤ 1048576) (hln : ln.length ≤ 1048576) (hT : RowIs w T lt.length (tcells lt)) (hN : RowIs w N ln.length (ncells ln)) (hT' : RowIs w T' lt.length (tcells lt)) (hN' : RowIs w N' ln.length (ncells ln)) :
    Calls Tryd.prog 26 #[.agg #[.int .i64 kind, T, .int .i64 hs, .int .i64 hf, .int .i64 hu, .int .i64 rs, .int .i64 rv, .int .i64 rb, .int .i64 nm, N, .int .i64 cs, .int .i64 cf, .int .i64 cc], .agg #[.int .i64 kind, T', .int .i64 hs, .int .i64 hf, .int .i64 hu, .int .i64 rs, .int .i64 rv, .int .i64 rb, .int .i64 nm, N', .int .i64 cs, .int .i64 cf, .int .i64 cc]] w
      fun e w' => e = .returned (.bool true) ∧ Below w.heap.size w w' := by
  obtain ⟨tao, tcap, rfl, _⟩ := id hT
  obtain ⟨nao, ncap, rfl, _⟩ := id hN
  obtain ⟨tao', tcap', rfl, _⟩ := id hT'
  obtain ⟨nao', ncap', rfl, _⟩ := id hN'
  obtain ⟨W, hW⟩ : ∃ W, (w.alloc (.cells #[.int .i64 kind, .slice tao lt.length tcap, .int .i64 hs, .int .i64 hf, .int .i64 hu, .int .i64 rs, .int .i64 rv, .int .i64 rb, .int .i64 nm, .slice nao ln.length ncap, .int .i64 cs, .int .i64 cf, .int .i64 cc] 37)).alloc (.cells #[.int .i64 kind, .slice tao' lt.length tcap', .int .i64 hs, .int .i64 hf, .int .i64 hu, .int .i64 rs, .int .i64 rv, .int .i64 rb, .int .i64 nm, .slice nao' ln.length ncap', .int .i64 cs, .int .i64 cf, .int .i64 cc] 37) = W := ⟨_, rfl⟩
  have hbW : Below w.heap.size w W := by rw [← hW]; exact (below_alloc _ _).alloc (by simp) _
  have n0 : W.heap[w.heap.size]? = some (.cells #[.int .i64 kind, .slice tao lt.length tcap, .int .i64 hs, .int .i64 hf, .int .i64 hu, .int .i64 rs, .int .i64 rv, .int .i64 rb, .int .i64 nm, .slice nao ln.length ncap, .int .i64 cs, .int .i64 cf, .int .i64 cc] 37 (0, 0)) := by rw [← hW]; exact at_alloc (new_at _ _)
  have n1 : W.heap[w.heap.size + 1]? = some (.cells #[.int .i64 kind, .slice tao' lt.length tcap', .int .i64 hs, .int .i64 hf, .int .i64 hu, .int .i64 rs, .int .i64 rv, .int .i64 rb, .int .i64 nm, .slice nao' ln.length ncap', .int .i64 cs, .int .i64 cf, .int .i64 cc] 37 (0, 0)) := by rw [← hW]; exact new_at1 _ _ _
  have HT := Lib.hid (hT.on hbW)
  have HN := Lib.hid (hN.on hbW)
  have HT' := Lib.hid (hT'.on hbW)
  have HN' := Lib.hid (hN'.on hbW)
  have H0 := Lib.hid n0
  have H1 := Lib.hid n1
  have x0 := cellsK n0 0
  have y0 := cellsK n1 0
  have x1 := cellsK n0 1
  have y1 := cellsK n1 1
  have x2 := cellsK n0 2
  have y2 := cellsK n1 2
  have x3 := cellsK n0 3
  have y3 := cellsK n1 3
  have x4 := cellsK n0 4
  have y4 := cellsK n1 4
  have x5 := cellsK n0 5
  have y5 := cellsK n1 5
  have x6 := cellsK n0 6
  have y6 := cellsK n1 6
  have x7 := cellsK n0 7
  have y7 := cellsK n1 7
  have x8 := cellsK n0 8
  have y8 := cellsK n1 8
  have x9 := cellsK n0 9
  have y9 := cellsK n1 9
  have x10 := cellsK n0 10
  have y10 := cellsK n1 10
  have x11 := cellsK n0 11
  have y11 := cellsK n1 11
  have x12 := cellsK n0 12
  have y12 := cellsK n1 12
  simp only [List.getElem?_toArray, List.getElem?_cons_zero, List.getElem?_cons_succ] at x0 y0 x1 y1 x2 y2 x3 y3 x4 y4 x5 y5 x6 y6 x7 y7 x8 y8 x9 y9 x10 y10 x11 y11 x12 y12
  clear hT hN hT' hN' n0 n1
  go_enter Tryd.func26, Tryd.ntmps26
  go_wp2
  go_loopw [5] (fun is wr => ∃ (k : Nat), is = .int .i64 k ∧ k ≤ lt.length ∧ Below W.heap.size W wr) (fun is _ => lt.length - (intOf is).toNat)
  case atStart => exact ⟨0, rfl, Nat.zero_le _, Below.refl _ _⟩
  case round =>
    obtain ⟨k, rfl, hk, hbw⟩ := hrel
    have z0 := cellsK (at_below H0.out hbw) 1
    have z1 := cellsK (at_below H1.out hbw) 1
    simp only [List.getElem?_toArray, List.getElem?_cons_zero, List.getElem?_cons_succ] at z0 z1
    by_cases hk1 : k < lt.length
    · obtain ⟨_, _, hao, ha⟩ := HT.out.on hbw
      cases hao
      obtain ⟨g, o, rfl, hca⟩ := ha (by omega)
      obtain ⟨_, _, hao, hb⟩ := HT'.out.on hbw
      cases hao
      obtain ⟨g', o', rfl, hcb⟩ := hb (by omega)
      obtain ⟨⟨tag, st, sz⟩, hx⟩ : ∃ x, lt[k]? = some x := ⟨_, List.getElem?_eq_getElem hk1⟩
      obtain ⟨t0, t1, t2⟩ := tcells_at lt k _ hx
      have c0 := hca _ _ t0
      have c1 := hca _ _ t1
      have c2 := hca _ _ t2
      have d0 := hcb _ _ t0
      have d1 := hcb _ _ t1
      have d2 := hcb _ _ t2
      simp only at c0 c1 c2 d0 d1 d2
      rw [← Nat.add_assoc] at c1 c2 d1 d2
      clear ha hb hca hcb t0 t1 t2 hx
      have ik0 : (0 : Int) ≤ (k : Int) := by omega
      have ik1 : (k : Int) < (lt.length : Int) := by omega
      go_wp2_with fail
      go_quiet (fail)
      go_wp2
      exact ⟨⟨k + 1, by go_num, by omega, below_drewN' hbw nq⟩, by simp [intOf]; omega⟩
    · have hge : ¬ ((k : Int) < (lt.length : Int)) := by omega
      have z2 := cellsK (at_below H0.out hbw) 9
      have z3 := cellsK (at_below H1.out hbw) 9
      simp only [List.getElem?_toArray, List.getElem?_cons_zero, List.getElem?_cons_succ] at z2 z3
      go_wp2
      go_loopw [6] (fun is wr => ∃ (k : Nat), is = .int .i64 k ∧ k ≤ ln.length ∧ Below W.heap.size W wr) (fun is _ => ln.length - (intOf is).toNat)
      case atStart => exact ⟨0, rfl, Nat.zero_le _, hbw⟩
      case round =>
        clear z0 z1 z2 z3 hge hk1 hbw hk
        obtain ⟨j, rfl, hk, hbw⟩ := hrel
        have z0 := cellsK (at_below H0.out hbw) 9
        have z1 := cellsK (at_below H1.out hbw) 9
        simp only [List.getElem?_toArray, List.getElem?_cons_zero, List.getElem?_cons_succ] at z0 z1
        by_cases hk1 : j < ln.length
        · obtain ⟨_, _, hao, ha⟩ := HN.out.on hbw
          cases hao
          obtain ⟨g, o, rfl, hca⟩ := ha (by omega)
          obtain ⟨_, _, hao, hb⟩ := HN'.out.on hbw
          cases hao
          obtain ⟨g', o', rfl, hcb⟩ := hb (by omega)
          obtain ⟨⟨pl, en, la, id, st, ms, tx⟩, hx⟩ : ∃ x, ln[j]? = some x := ⟨_, List.getElem?_eq_getElem hk1⟩
          obtain ⟨t0, t1, t2, t3, t4, t5, t6⟩ := ncells_at ln j _ hx
          have c0 := hca _ _ t0
          have d0 := hcb _ _ t0
          have c1 := hca _ _ t1
          have d1 := hcb _ _ t1
          have c2 := hca _ _ t2
          have d2 := hcb _ _ t2
          have c3 := hca _ _ t3
          have d3 := hcb _ _ t3
          have c4 := hca _ _ t4
          have d4 := hcb _ _ t4
          have c5 := hca _ _ t5
          have d5 := hcb _ _ t5
          have c6 := hca _ _ t6
          have d6 := hcb _ _ t6
          simp only at c0 c1 c2 c3 c4 c5 c6 d0 d1 d2 d3 d4 d5 d6
          rw [← Nat.add_assoc] at c1 c2 c3 c4 c5 c6 d1 d2 d3 d4 d5 d6
          clear ha hb hca hcb t0 t1 t2 t3 t4 t5 t6 hx
          have ik0 : (0 : Int) ≤ (j : Int) := by omega
          have ik1 : (j : Int) < (ln.length : Int) := by omega
          go_wp2_with fail
          go_quiet (fail)
          go_wp2
          exact ⟨⟨j + 1, by go_num, by omega, below_drewN' hbw nq⟩, by simp [intOf]; omega⟩
        · have hge : ¬ ((j : Int) < (ln.length : Int)) := by omega
          go_wp2
          go_ret
          exact ⟨rfl, hbW.trans (hbw.mono hbW.size)⟩

set_option maxRecDepth 100000 in
set_option maxHeartbeats 4000000 in
/-- a report and the empty one -/
theorem sameK0 (kind hs hf hu rs rv rb nm cs cf cc : Int) (tao nao : Option Addr) (n tcap m ncap : Nat) (w : World) (q : Bool) (hq : decide (kind = 0 ∧ (hs = 0 ∧ hf = 0 ∧ hu = 0) ∧ (rs = 0 ∧ rv = 0 ∧ rb = 0) ∧ nm = 0 ∧ (cs = 0 ∧ cf = 0 ∧ cc = 0) ∧ n = 0 ∧ m = 0) = q) :
    Calls Tryd.prog 26 #[.agg #[.int .i64 kind, .slice tao n tcap, .int .i64 hs, .int .i64 hf, .int .i64 hu, .int .i64 rs, .int .i64 rv, .int .i64 rb, .int .i64 nm, .slice nao m ncap, .int .i64 cs, .int .i64 cf, .int .i64 cc], .agg #[.int .i64 0, .slice none 0 0, .int .i64 0, .int .i64 0, .int .i64 0, .int .i64 0, .int .i64 0, .int .i64 0, .int .i64 0, .slice none 0 0, .int .i64 0, .int .i64 0, .int .i64 0]] w
      fun e w' => e = .returned (.bool q) ∧ Below w.heap.size w w' := by
  obtain ⟨W, hW⟩ : ∃ W, (w.alloc (.cells #[.int .i64 kind, .slice tao n tcap, .int .i64 hs, .int .i64 hf, .int .i64 hu, .int .i64 rs, .int .i64 rv, .int .i64 rb, .int .i64 nm, .slice nao m ncap, .int .i64 cs, .int .i64 cf, .int .i64 cc] 37)).alloc (.cells #[.int .i64 0, .slice none 0 0, .int .i64 0, .int .i64 0, .int .i64 0, .int .i64 0, .int .i64 0, .int .i64 0, .int .i64 0, .slice none 0 0, .int .i64 0, .int .i64 0, .int .i64 0] 37) = W := ⟨_, rfl⟩
  have hbW : Below w.heap.size w W := by rw [← hW]; exact (below_alloc _ _).alloc (by simp) _
  have n0 : W.heap[w.heap.size]? = some (.cells #[.int .i64 kind, .slice tao n tcap, .int .i64 hs, .int .i64 hf, .int .i64 hu, .int .i64 rs, .int .i64 rv, .int .i64 rb, .int .i64 nm, .slice nao m ncap, .int .i64 cs, .int .i64 cf, .int .i64 cc] 37 (0, 0)) := by rw [← hW]; exact at_alloc (new_at _ _)
  have n1 : W.heap[w.heap.size + 1]? = some (.cells #[.int .i64 0, .slice none 0 0, .int .i64 0, .int .i64 0, .int .i64 0, .int .i64 0, .int .i64 0, .int .i64 0, .int .i64 0, .slice none 0 0, .int .i64 0, .int .i64 0, .int .i64 0] 37 (0, 0)) := by rw [← hW]; exact new_at1 _ _ _
  have x0 := cellsK n0 0
  have y0 := cellsK n1 0
  have x1 := cellsK n0 1
  have y1 := cellsK n1 1
  have x2 := cellsK n0 2
  have y2 := cellsK n1 2
  have x3 := cellsK n0 3
  have y3 := cellsK n1 3
  have x4 := cellsK n0 4
  have y4 := cellsK n1 4
  have x5 := cellsK n0 5
  have y5 := cellsK n1 5
  have x6 := cellsK n0 6
  have y6 := cellsK n1 6
  have x7 := cellsK n0 7
  have y7 := cellsK n1 7
  have x8 := cellsK n0 8
  have y8 := cellsK n1 8
  have x9 := cellsK n0 9
  have y9 := cellsK n1 9
  have x10 := cellsK n0 10
  have y10 := cellsK n1 10
  have x11 := cellsK n0 11
  have y11 := cellsK n1 11
  have x12 := cellsK n0 12
  have y12 := cellsK n1 12
  simp only [List.getElem?_toArray, List.getElem?_cons_zero, List.getElem?_cons_succ] at x0 y0 x1 y1 x2 y2 x3 y3 x4 y4 x5 y5 x6 y6 x7 y7 x8 y8 x9 y9 x10 y10 x11 y11 x12 y12
  have HQ := Lib.hid hq
  clear hq n0 n1
  go_enter Tryd.func26, Tryd.ntmps26
  go_wp2
  all_goals first
    | (go_ret
       exact ⟨ret_bool (HQ.out.symm.trans (decide_eq_false (by first | omega | (have hm := ne_of_bne (a := (m : Int)) (by assumption); omega)))).symm, hbW⟩)
    | skip
  have hm := eq_of_bne (a := (m : Int)) (by assumption)
  obtain rfl : m = 0 := by omega
  have hq2 : q = true := by
    rw [← HQ.out]
    apply decide_eq_true
    omega
  have HQ2 := Lib.hid hq2
  clear hq2
  go_loopw [5] (fun is wr => is = .int .i64 0 ∧ wr = W) (fun _ _ => 0)
  case atStart => exact ⟨rfl, rfl⟩
  case round =>
    obtain ⟨rfl, rfl⟩ := hrel
    go_wp2
    go_loopw [6] (fun is w2 => is = .int .i64 0 ∧ w2 = wr) (fun _ _ => 0)
    case atStart => exact ⟨rfl, rfl⟩
    case round =>
      obtain ⟨rfl, rfl⟩ := hrel
      go_wp2
      go_ret
      exact ⟨ret_bool HQ2.out.symm, hbW⟩
end Go.Proofs.YteibjmlimcpaoaaDoor.K

set_option linter.unusedVariables false
set_option linter.unusedSimpArgs false
namespace Go.Proofs.YteibjmlimcpaoaaDoor.K
open Go.RowKit Go.Sort
open Go.Proofs.YteibjmlimcpaoaaDoor.W (at_below at_alloc new_at below_alloc)

set_option maxRecDepth 100000 in
set_option maxHeartbeats 4000000 in
/-- a report and the empty one -/
theorem sameKz (kind hs hf hu rs rv rb nm cs cf cc : Int) (tao nao dao eao : Option Addr) (n tcap m ncap dcap ecap : Nat) (w : World) (q : Bool) (hq : decide (kind = 0 ∧ (hs = 0 ∧ hf = 0 ∧ hu = 0) ∧ (rs = 0 ∧ rv = 0 ∧ rb = 0) ∧ nm = 0 ∧ (cs = 0 ∧ cf = 0 ∧ cc = 0) ∧ n = 0 ∧ m = 0) = q) :
    Calls Tryd.prog 26 #[.agg #[.int .i64 kind, .slice tao n tcap, .int .i64 hs, .int .i64 hf, .int .i64 hu, .int .i64 rs, .int .i64 rv, .int .i64 rb, .int .i64 nm, .slice nao m ncap, .int .i64 cs, .int .i64 cf, .int .i64 cc], .agg #[.int .i64 0, .slice dao 0 dcap, .int .i64 0, .int .i64 0, .int .i64 0, .int .i64 0, .int .i64 0, .int .i64 0, .int .i64 0, .slice eao 0 ecap, .int .i64 0, .int .i64 0, .int .i64 0]] w
      fun e w' => e = .returned (.bool q) ∧ Below w.heap.size w w' := by
  obtain ⟨W, hW⟩ : ∃ W, (w.alloc (.cells #[.int .i64 kind, .slice tao n tcap, .int .i64 hs, .int .i64 hf, .int .i64 hu, .int .i64 rs, .int .i64 rv, .int .i64 rb, .int .i64 nm, .slice nao m ncap, .int .i64 cs, .int .i64 cf, .int .i64 cc] 37)).alloc (.cells #[.int .i64 0, .slice dao 0 dcap, .int .i64 0, .int .i64 0, .int .i64 0, .int .i64 0, .int .i64 0, .int .i64 0, .int .i64 0, .slice eao 0 ecap, .int .i64 0, .int .i64 0, .int .i64 0] 37) = W := ⟨_, rfl⟩
  have hbW : Below w.heap.size w W := by rw [← hW]; exact (below_alloc _ _).alloc (by simp) _
  have n0 : W.heap[w.heap.size]? = some (.cells #[.int .i64 kind, .slice tao n tcap, .int .i64 hs, .int .i64 hf, .int .i64 hu, .int .i64 rs, .int .i64 rv, .int .i64 rb, .int .i64 nm, .slice nao m ncap, .int .i64 cs, .int .i64 cf, .int .i64 cc] 37 (0, 0)) := by rw [← hW]; exact at_alloc (new_at _ _)
  have n1 : W.heap[w.heap.size + 1]? = some (.cells #[.int .i64 0, .slice dao 0 dcap, .int .i64 0, .int .i64 0, .int .i64 0, .int .i64 0, .int .i64 0, .int .i64 0, .int .i64 0, .slice eao 0 ecap, .int .i64 0, .int .i64 0, .int .i64 0] 37 (0, 0)) := by rw [← hW]; exact new_at1 _ _ _
  have x0 := cellsK n0 0
  have y0 := cellsK n1 0
  have x1 := cellsK n0 1
  have y1 := cellsK n1 1
  have x2 := cellsK n0 2
  have y2 := cellsK n1 2
  have x3 := cellsK n0 3
  have y3 := cellsK n1 3
  have x4 := cellsK n0 4
  have y4 := cellsK n1 4
  have x5 := cellsK n0 5
  have y5 := cellsK n1 5
  have x6 := cellsK n0 6
  have y6 := cellsK n1 6
  have x7 := cellsK n0 7
  have y7 := cellsK n1 7
  have x8 := cellsK n0 8
  have y8 := cellsK n1 8
  have x9 := cellsK n0 9
  have y9 := cellsK n1 9
  have x10 := cellsK n0 10
  have y10 := cellsK n1 10
  have x11 := cellsK n0 11
  have y11 := cellsK n1 11
  have x12 := cellsK n0 12
  have y12 := cellsK n1 12
  simp only [List.getElem?_toArray, List.getElem?_cons_zero, List.getElem?_cons_succ] at x0 y0 x1 y1 x2 y2 x3 y3 x4 y4 x5 y5 x6 y6 x7 y7 x8 y8 x9 y9 x10 y10 x11 y11 x12 y12
  have HQ := Lib.hid hq
  clear hq n0 n1
  go_enter Tryd.func26, Tryd.ntmps26
  go_wp2
  all_goals first
    | (go_ret
       exact ⟨ret_bool (HQ.out.symm.trans (decide_eq_false (by first | omega | (have hm := ne_of_bne (a := (m : Int)) (by assumption); omega)))).symm, hbW⟩)
    | skip
  have hm := eq_of_bne (a := (m : Int)) (by assumption)
  obtain rfl : m = 0 := by omega
  have hq2 : q = true := by
    rw [← HQ.out]
    apply decide_eq_true
    omega
  have HQ2 := Lib.hid hq2
  clear hq2
  go_loopw [5] (fun is wr => is = .int .i64 0 ∧ wr = W) (fun _ _ => 0)
  case atStart => exact ⟨rfl, rfl⟩
  case round =>
    obtain ⟨rfl, rfl⟩ := hrel
    go_wp2
    go_loopw [6] (fun is w2 => is = .int .i64 0 ∧ w2 = wr) (fun _ _ => 0)
    case atStart => exact ⟨rfl, rfl⟩
    case round =>
      obtain ⟨rfl, rfl⟩ := hrel
      go_wp2
      go_ret
      exact ⟨ret_bool HQ2.out.symm, hbW⟩
end Go.Proofs.YteibjmlimcpaoaaDoor.K

set_option linter.unusedVariables false
set_option linter.unusedSimpArgs false
namespace Go.Proofs.YteibjmlimcpaoaaDoor.K
open Go.RowKit Go.Sort
open Go.Proofs.YteibjmlimcpaoaaDoor.W (at_below at_alloc new_at below_alloc)

def cntT (l : List Tab) : Nat := (l.filter fun t => decide (t.st = 0 ∨ t.st = 4)).length
theorem cntT_step (l : List Tab) (k : Nat) (x : Tab) (h : l[k]? = some x) : cntT (l.take (k + 1)) = cntT (l.take k) + if x.st = 0 ∨ x.st = 4 then 1 else 0 := by
  have hk := (List.getElem?_eq_some_iff.1 h).1
  have e : l.take (k + 1) = l.take k ++ [x] := by
    rw [List.take_add_one, h]
    rfl
  unfold cntT
  rw [e, List.filter_append, List.length_append]
  by_cases hx : x.st = 0 ∨ x.st = 4
  · simp [hx]
  · simp [hx]
theorem cntT_le (l : List Tab) (k : Nat) : cntT (l.take k) ≤ k := by
  unfold cntT
  have := List.length_filter_le (fun t : Tab => decide (t.st = 0 ∨ t.st = 4)) (l.take k)
  rw [List.length_take] at this
  omega
theorem val_int {k : IntKind} {a b : Int} (h : a = b) : Value.int k a = Value.int k b := by rw [h]
theorem ret_int {k : IntKind} {a b : Int} (h : a = b) : Ending.returned (.int k a) = .returned (.int k b) := by rw [h]

set_option maxRecDepth 100000 in
set_option maxHeartbeats 1000000 in
theorem leastK (r : Rep) (tao nao : Option Addr) (tcap ncap : Nat) (w : World) (hlt : r.lt.length ≤ 1048576) (hln : r.ln.length ≤ 1048576) (hT : RowIs w (.slice tao r.lt.length tcap) r.lt.length (tcells r.lt)) :
    Calls Tryd.prog 27 #[.agg #[.int .i64 r.kind, .slice tao r.lt.length tcap, .int .i64 r.hs, .int .i64 r.hf, .int .i64 r.hu, .int .i64 r.rs, .int .i64 r.rv, .int .i64 r.rb, .int .i64 r.nm, .slice nao r.ln.length ncap, .int .i64 r.cs, .int .i64 r.cf, .int .i64 r.cc]] w
      fun e w' => e = .returned (.int .i64 (leastR r : Int)) ∧ Below w.heap.size w w' := by
  obtain ⟨W, hW⟩ : ∃ W, w.alloc (.cells #[.int .i64 r.kind, .slice tao r.lt.length tcap, .int .i64 r.hs, .int .i64 r.hf, .int .i64 r.hu, .int .i64 r.rs, .int .i64 r.rv, .int .i64 r.rb, .int .i64 r.nm, .slice nao r.ln.length ncap, .int .i64 r.cs, .int .i64 r.cf, .int .i64 r.cc] 37) = W := ⟨_, rfl⟩
  have hbW : Below w.heap.size w W := by rw [← hW]; exact below_alloc _ _
  have n0 : W.heap[w.heap.size]? = some (.cells #[.int .i64 r.kind, .slice tao r.lt.length tcap, .int .i64 r.hs, .int .i64 r.hf, .int .i64 r.hu, .int .i64 r.rs, .int .i64 r.rv, .int .i64 r.rb, .int .i64 r.nm, .slice nao r.ln.length ncap, .int .i64 r.cs, .int .i64 r.cf, .int .i64 r.cc] 37 (0, 0)) := by rw [← hW]; exact new_at _ _
  have HT := Lib.hid (hT.on hbW)
  have H0 := Lib.hid n0
  have x0 := cellsK n0 0
  have x1 := cellsK n0 1
  have x9 := cellsK n0 9
  simp only [List.getElem?_toArray, List.getElem?_cons_zero, List.getElem?_cons_succ] at x0 x1 x9
  obtain ⟨base, hbase⟩ : ∃ base : Nat, 8 * r.ln.length + (if r.kind = 1 ∨ r.kind = 2 then 6 else 0) = base := ⟨_, rfl⟩
  have hb0 : base ≤ 8388614 := by rw [← hbase]; split <;> omega
  have hfin : leastR r = base + 8 * cntT r.lt := by rw [← hbase]; rfl
  have HF := Lib.hid hfin
  have hcase : ((r.kind == 1) = true ∧ base = 8 * r.ln.length + 6) ∨ ((r.kind == 1) = false ∧ (r.kind == 2) = true ∧ base = 8 * r.ln.length + 6) ∨ ((r.kind == 1) = false ∧ (r.kind == 2) = false ∧ base = 8 * r.ln.length) := by
    by_cases k1 : r.kind = 1
    · exact .inl ⟨by simp [k1], by rw [← hbase, if_pos (.inl k1)]⟩
    · by_cases k2 : r.kind = 2
      · exact .inr (.inl ⟨by simp [k1], by simp [k2], by rw [← hbase, if_pos (.inr k2)]⟩)
      · exact .inr (.inr ⟨by simp [k1], by simp [k2], by rw [← hbase, if_neg (by omega), Nat.add_zero]⟩)
  clear hT n0 hfin hbase
  rcases hcase with ⟨e1, hbase⟩ | ⟨e1, e2, hbase⟩ | ⟨e1, e2, hbase⟩
  all_goals (
  go_enter Tryd.func27, Tryd.ntmps27
  go_wp2
  (
    go_loopw [3, 4] (fun ns is wr => ∃ (k : Nat), is = .int .i64 (k : Int) ∧ k ≤ r.lt.length ∧ ns = .int .i64 ((base + 8 * cntT (r.lt.take k) : Nat) : Int) ∧ wr = W) (fun _ is _ => r.lt.length - (intOf is).toNat)
    case atStart =>
      refine ⟨0, rfl, Nat.zero_le _, val_int ?_, rfl⟩
      have e : cntT (r.lt.take 0) = 0 := rfl
      rw [e, hbase]
      omega
    case round =>
      obtain ⟨k, rfl, hk, rfl, rfl⟩ := hrel
      by_cases hk1 : k < r.lt.length
      · obtain ⟨_, _, hao, ha⟩ := HT.out
        cases hao
        obtain ⟨g, o, rfl, hca⟩ := ha (by omega)
        obtain ⟨⟨tag, st, sz⟩, hx⟩ : ∃ x, r.lt[k]? = some x := ⟨_, List.getElem?_eq_getElem hk1⟩
        obtain ⟨t0, t1, t2⟩ := tcells_at r.lt k _ hx
        have c1 := hca _ _ t1
        simp only at c1
        rw [← Nat.add_assoc] at c1
        have hs := cntT_step r.lt k _ hx
        have hle := cntT_le r.lt k
        simp only at hs
        clear ha hca t0 t1 t2 hx
        have ik0 : (0 : Int) ≤ (k : Int) := by omega
        have ik1 : (k : Int) < (r.lt.length : Int) := by omega
        generalize cntT (r.lt.take k) = c at *
        by_cases h1 : st = 0
        · subst h1
          have b1 : ((0 : Int) == 0) = true := rfl
          rw [if_pos (.inl rfl)] at hs
          go_wp2
          exact ⟨⟨k + 1, by go_num, by omega, by rw [hs]; exact val_int (by omega), (by first | rfl | trivial)⟩, by simp [intOf]; omega⟩
        · by_cases h2 : st = 4
          · subst h2
            have b1 : ((4 : Int) == 0) = false := rfl
            have b2 : ((4 : Int) == 4) = true := rfl
            rw [if_pos (.inr rfl)] at hs
            go_wp2
            exact ⟨⟨k + 1, by go_num, by omega, by rw [hs]; exact val_int (by omega), (by first | rfl | trivial)⟩, by simp [intOf]; omega⟩
          · rw [if_neg (by omega)] at hs
            have b1 : (st == 0) = false := by simp [h1]
            have b2 : (st == 4) = false := by simp [h2]
            go_wp2
            exact ⟨⟨k + 1, by go_num, by omega, by rw [hs]; exact val_int (by omega), (by first | rfl | trivial)⟩, by simp [intOf]; omega⟩
      · have hge : ¬ ((k : Int) < (r.lt.length : Int)) := by omega
        obtain rfl : k = r.lt.length := by omega
        go_wp2
        go_ret
        refine ⟨ret_int ?_, hbW⟩
        rw [HF.out]
        (try rw [List.take_length])
        omega))
end Go.Proofs.YteibjmlimcpaoaaDoor.K
