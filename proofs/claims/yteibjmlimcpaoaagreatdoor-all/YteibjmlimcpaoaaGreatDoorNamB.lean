/-
  What package look's naming answers: a file's names, as the plain program says; nothing but the meter turns.
-/
import Derived.Test.YteibjmlimcpaoaaGreatDoorWe
set_option linter.unusedVariables false
set_option linter.unusedSimpArgs false
namespace Go.Proofs.YteibjmlimcpaoaaGreatDoor.W
open Go.RowKit Go.Sort

theorem naming_run (D : List UInt8) (P : Pol) (l : List Tw) (m m1 m2 : Mt) (v : Wn) (s0 c s1 texts : Nat) (h0 : tableOf tagName l = (v, s0)) (h1 : (countP v 6 12).run D m = ((c, s1), m1)) (h2 : (v.two 4).run D m1 = (texts, m2)) :
    (namingP P l).run D m = if s0 ≠ 0 then (⟨s0, false, ⟨0, 0⟩, []⟩, m) else if s1 ≠ 0 then (⟨s1, false, ⟨0, 0⟩, []⟩, m1) else (⟨0, true, v.cut 0 (6 + 12 * c), ((namesP P v texts c 0 []).run D m2).1⟩, ((namesP P v texts c 0 []).run D m2).2) := by
  unfold namingP
  rw [show ([110, 97, 109, 101] : List UInt8) = tagName from rfl, h0]
  simp only
  split
  · rfl
  · rw [Pr.run_bind, h1]
    simp only
    split
    · rfl
    · rw [Pr.run_bind, h2]
      simp only
      rw [Pr.run_bind]
      rfl
theorem names_step (D : List UInt8) (P : Pol) (t : Wn) (texts k i : Nat) (l : List Nw) (m M : Mt) (x : Nw) (h : (nameP P t texts (t.cut (6 + 12 * i) 12)).run D m = (x, M)) : (namesP P t texts (k + 1) i l).run D m = (namesP P t texts k (i + 1) (l ++ [x])).run D M := by
  rw [namesP, Pr.run_bind, h]
theorem infoNw : (Tryz.prog.info? 170).map (fun i => (i.zero, i.size, i.bytes)) = some (some (.agg #[.int .i64 0, .int .i64 0, .int .i64 0, .int .i64 0, .int .i64 0, .int .i64 0, .string ⟨#[]⟩, .pointer none, .int .i64 0, .int .i64 0]), 10, 88) := by kernel_rfl
/-- five cells of a result -/
theorem end5 {w w1 : World} {p k : Nat} {m : Mt} {D : List UInt8} {x0 x1 x2 x3 x4 : Value} (v0 v1 v2 v3 v4 : Value) {T : TypeId} (q : w1.heap[k]? = some (.cells #[x0, x1, x2, x3, x4] T (0, 0))) (hk : w.heap.size ≤ k) (hpk : p ≠ k) (hf : FlAt p m D w1) (g : w.grownBy w1 (some p)) :
    (((((w1.setCell ⟨k, 0, none⟩ v0).setCell ⟨k, 1, none⟩ v1).setCell ⟨k, 2, none⟩ v2).setCell ⟨k, 3, none⟩ v3).setCell ⟨k, 4, none⟩ v4).heap[k]? = some (.cells #[v0, v1, v2, v3, v4] T (0, 0)) ∧ FlAt p m D (((((w1.setCell ⟨k, 0, none⟩ v0).setCell ⟨k, 1, none⟩ v1).setCell ⟨k, 2, none⟩ v2).setCell ⟨k, 3, none⟩ v3).setCell ⟨k, 4, none⟩ v4) ∧ w.grownBy (((((w1.setCell ⟨k, 0, none⟩ v0).setCell ⟨k, 1, none⟩ v1).setCell ⟨k, 2, none⟩ v2).setCell ⟨k, 3, none⟩ v3).setCell ⟨k, 4, none⟩ v4) (some p) ∧ w1.grownBy (((((w1.setCell ⟨k, 0, none⟩ v0).setCell ⟨k, 1, none⟩ v1).setCell ⟨k, 2, none⟩ v2).setCell ⟨k, 3, none⟩ v3).setCell ⟨k, 4, none⟩ v4) (some k) := by
  have q5 := setCell_row (i := 4) (setCell_row (i := 3) (setCell_row (i := 2) (setCell_row (i := 1) (setCell_row (i := 0) q v0) v1) v2) v3) v4
  have gs : w1.grownBy (((((w1.setCell ⟨k, 0, none⟩ v0).setCell ⟨k, 1, none⟩ v1).setCell ⟨k, 2, none⟩ v2).setCell ⟨k, 3, none⟩ v3).setCell ⟨k, 4, none⟩ v4) (some k) := grown_set (grown_set (grown_set (grown_set (grown_set (World.grownBy.refl _ _) _ _) _ _) _ _) _ _) _ _
  exact ⟨q5, grown_at gs hf hpk, grown_row g gs (fun j hj => by cases hj; exact hk), gs⟩


/-- where the look at a file's names stands -/
structure Sn (wb : World) (kp kt ob kr p : Nat) (P : Pol) (ta ia : Option Addr) (tc ic : Nat) (v a : Wn) (V : Value) (l : List Nw) (D : List UInt8) (m : Mt) (w : World) : Prop where
  hp : p < wb.heap.size
  h1 : wb.heap.size ≤ kp
  h2 : wb.heap.size ≤ kt
  h3 : wb.heap.size ≤ ob
  h4 : wb.heap.size ≤ kr
  n1 : kp ≠ ob
  n2 : kt ≠ ob
  n3 : kr ≠ ob
  hg : wb.grownBy w (some p)
  pol : w.heap[kp]? = some (.cells #[.slice ta P.tags.length tc, .slice ia P.ids.length ic, .int .i64 P.text] 25 (0, 0))
  tb : w.heap[kt]? = some (.cells #[.pointer (some ⟨p, 0, none⟩), .int .i64 (v.b : Int), .int .i64 (v.s : Int)] 126 (0, 0))
  out : w.heap[ob]? = some (.cells #[.int .i64 0, .pointer (some ⟨p, 0, none⟩), .int .i64 (a.b : Int), .int .i64 (a.s : Int), V] 137 (0, 0))
  res : w.heap[kr]? = some (.cells #[.int .i64 0, .pointer none, .int .i64 0, .int .i64 0, .slice none 0 0] 137 (0, 0))
  ht : NamsAt wb.heap.size p l V w
  hf : FlAt p m D w
  hm : MOk m
  he : En P (.slice ta P.tags.length tc) (.slice ia P.ids.length ic) p w
section
variable {wb : World} {kp kt ob kr p : Nat} {P : Pol} {ta ia : Option Addr} {tc ic : Nat} {v a : Wn} {V : Value} {l : List Nw} {D : List UInt8} {m m' : Mt} {w w' wa w1 : World}
theorem Sn.meter (h : Sn wb kp kt ob kr p P ta ia tc ic v a V l D m w) (g : w.grownBy w' (some p)) (hf : FlAt p m' D w') (hm : MOk m') : Sn wb kp kt ob kr p P ta ia tc ic v a V l D m' w' := by
  have hp := h.hp
  have q1 := h.h1
  have q2 := h.h2
  have q3 := h.h3
  have q4 := h.h4
  exact ⟨hp, q1, q2, q3, q4, h.n1, h.n2, h.n3, grown_trans h.hg g, grown_at g h.pol (by omega), grown_at g h.tb (by omega), grown_at g h.out (by omega), grown_at g h.res (by omega), own_kept_g h.ht g hp, hf, hm, h.he.grow g⟩
theorem Sn.below (h : Sn wb kp kt ob kr p P ta ia tc ic v a V l D m w) (hb : Below w.heap.size w w') : Sn wb kp kt ob kr p P ta ia tc ic v a V l D m w' :=
  h.meter (grown_below _ hb) (fl_below h.hf hb) h.hm
theorem Sn.push {V' : Value} {x : Nw} (h : Sn wb kp kt ob kr p P ta ia tc ic v a V l D m w) (hb : Below w.heap.size w wa) (hgr : wa.grownBy w1 V.ownBlock) (ho : w1.ownsRow wb.heap.size 170 10 V' (l.length + 1) (mcells p l ++ mcells p [x])) :
    w1.heap[kp]? = some (.cells #[.slice ta P.tags.length tc, .slice ia P.ids.length ic, .int .i64 P.text] 25 (0, 0)) ∧ w1.heap[kt]? = some (.cells #[.pointer (some ⟨p, 0, none⟩), .int .i64 (v.b : Int), .int .i64 (v.s : Int)] 126 (0, 0)) ∧ w1.heap[ob]? = some (.cells #[.int .i64 0, .pointer (some ⟨p, 0, none⟩), .int .i64 (a.b : Int), .int .i64 (a.s : Int), V] 137 (0, 0)) ∧ Sn wb kp kt ob kr p P ta ia tc ic v a V' (l ++ [x]) D m (w1.setCell ⟨ob, 4, none⟩ V') := by
  have s := h.below hb
  have hp := h.hp
  have h3 := h.h3
  have hne : ∀ k, V.ownBlock = some k → wb.heap.size ≤ k := fun k e => (s.ht.lt k e).1
  have g1 : wb.grownBy w1 (some p) := grown_row s.hg hgr hne
  have gs : w1.grownBy (w1.setCell ⟨ob, 4, none⟩ V') (some ob) := grown_set (World.grownBy.refl _ _) _ _
  have r1 := (hgr.block kp (at_lt s.pol) (fun e => own_kind_ne' s.ht s.pol (by decide) e.symm)).trans s.pol
  have r2 := (hgr.block kt (at_lt s.tb) (fun e => own_kind_ne' s.ht s.tb (by decide) e.symm)).trans s.tb
  have r3 := (hgr.block ob (at_lt s.out) (fun e => own_kind_ne' s.ht s.out (by decide) e.symm)).trans s.out
  have r4 := (hgr.block kr (at_lt s.res) (fun e => own_kind_ne' s.ht s.res (by decide) e.symm)).trans s.res
  have hf1 : FlAt p m D w1 := (hgr.block p (at_lt s.hf) (fun e => by have := hne p e.symm; omega)).trans s.hf
  refine ⟨r1, r2, r3, hp, h.h1, h.h2, h3, h.h4, h.n1, h.n2, h.n3, grown_other g1 gs h3, grown_at gs r1 h.n1, grown_at gs r2 h.n2, ?_, grown_at gs r4 h.n3, ?_, grown_at gs hf1 (by omega), h.hm, ?_⟩
  · exact setCell_row r3 V'
  · show World.ownsRow _ _ _ _ _ (l ++ [x]).length (mcells p (l ++ [x]))
    rw [mcells_append, List.length_append]
    exact ho.kept gs (.inr (own_kind_ne' ho r3 (by decide)))
  · obtain ⟨wi, hb', hp', q1, q2, q3⟩ := s.he
    have b1 := hb'.grown hgr hb'.size (fun j hj => by have := hne j hj; omega)
    exact ⟨wi, b1.grown gs b1.size (fun j hj => by cases hj; omega), hp', q1, q2, q3⟩
end

set_option maxRecDepth 100000 in
set_option maxHeartbeats 4000000 in
theorem namingW (p B : Nat) (P : Pol) (T I VT : Value) (d : Dir) (m : Mt) (D : List UInt8) (w : World) (h8 : P.ids.length ≤ 8) (hD : D.length ≤ 2000) (hpB : p < B) (hB : B ≤ w.heap.size) (hd : DB D.length d) (hm : MOk m) (h : FlAt p m D w) (he : En P T I p w) (ht : TabsAt B p d.tabs VT w) (ns : Ns) (M : Mt) (hr : (namingP P d.tabs).run D m = (ns, M)) :
    Calls Tryz.prog 72 #[pv T I P.text, dv p d VT] w fun e w' => ∃ VL, e = .returned (nsv p ns VL) ∧ NamsAt w.heap.size p ns.list VL w' ∧ FlAt p M D w' ∧ w.grownBy w' (some p) := by
  obtain ⟨i0, hi, hz0, hz1, hz2⟩ := info_parts infoNw
  have hlt := fl_lt h
  have hs1 := he.pol.tags
  have hs2 := he.pol.ids
  obtain ⟨ta, tc, hTe, _⟩ := hs1
  obtain ⟨ia, ic, hIe, _⟩ := hs2
  subst hTe hIe
  unfold dv pv
  obtain ⟨fq, hfq⟩ : ∃ fq, (if d.here = true then some (⟨p, 0, none⟩ : Addr) else none) = fq := ⟨_, rfl⟩
  rw [hfq]
  clear hfq
  obtain ⟨va, vc, rfl⟩ := own_slice ht
  obtain ⟨v, s0, h0⟩ : ∃ v s0, tableOf tagName d.tabs = (v, s0) := ⟨_, _, rfl⟩
  obtain ⟨c, s1, m1, h1⟩ : ∃ c s m1, (countP v 6 12).run D m = ((c, s), m1) := ⟨_, _, _, rfl⟩
  obtain ⟨texts, m2, h2⟩ : ∃ x y, (v.two 4).run D m1 = (x, y) := ⟨_, _, rfl⟩
  rw [naming_run D P d.tabs m m1 m2 v s0 c s1 texts h0 h1 h2] at hr
  have hta := tableOf_any hd.tabs tagName
  rw [h0] at hta
  simp only at hta
  have hin : InF v D := ⟨hta.2, hD⟩
  have mk1 : MOk m1 := by have := MOk.run D (countP v 6 12) hm; rw [h1] at this; exact this
  have mk2 : MOk m2 := by have := MOk.run D (v.two 4) mk1; rw [h2] at this; exact this
  obtain ⟨W, hW⟩ : ∃ W, ((w.alloc (.cells #[.slice ta P.tags.length tc, .slice ia P.ids.length ic, .int .i64 P.text] 25)).alloc (.cells #[.int .i64 (d.kind : Int), .pointer fq, .pointer fq, .int .i64 (d.recs.b : Int), .int .i64 (d.recs.s : Int), .slice va d.tabs.length vc] 130)).alloc (.cells #[.int .i64 0, .pointer none, .int .i64 0, .int .i64 0, .slice none 0 0] 137) = W := ⟨_, rfl⟩
  have hbW : Below w.heap.size w W := by rw [← hW]; exact ((below_alloc _ _).alloc (by simp) _).alloc (by simp; omega) _
  have gW : w.grownBy W (some p) := grown_below _ hbW
  have fW : FlAt p m D W := fl_below h hbW
  have eW := he.grow gW
  have sW : W.heap.size = w.heap.size + 3 := by rw [← hW]; simp
  have n0 : W.heap[w.heap.size]? = some (.cells #[.slice ta P.tags.length tc, .slice ia P.ids.length ic, .int .i64 P.text] 25 (0, 0)) := by rw [← hW]; exact at_alloc (at_alloc (new_at _ _))
  have n1 : W.heap[w.heap.size + 1]? = some (.cells #[.int .i64 (d.kind : Int), .pointer fq, .pointer fq, .int .i64 (d.recs.b : Int), .int .i64 (d.recs.s : Int), .slice va d.tabs.length vc] 130 (0, 0)) := by
    rw [← hW]
    refine at_alloc ?_
    have := new_at (w.alloc (.cells #[.slice ta P.tags.length tc, .slice ia P.ids.length ic, .int .i64 P.text] 25)) (.cells #[.int .i64 (d.kind : Int), .pointer fq, .pointer fq, .int .i64 (d.recs.b : Int), .int .i64 (d.recs.s : Int), .slice va d.tabs.length vc] 130)
    simpa using this
  have n2 : W.heap[w.heap.size + 2]? = some (.cells #[.int .i64 0, .pointer none, .int .i64 0, .int .i64 0, .slice none 0 0] 137 (0, 0)) := by
    rw [← hW]
    have := new_at ((w.alloc (.cells #[.slice ta P.tags.length tc, .slice ia P.ids.length ic, .int .i64 P.text] 25)).alloc (.cells #[.int .i64 (d.kind : Int), .pointer fq, .pointer fq, .int .i64 (d.recs.b : Int), .int .i64 (d.recs.s : Int), .slice va d.tabs.length vc] 130)) (.cells #[.int .i64 0, .pointer none, .int .i64 0, .int .i64 0, .slice none 0 0] 137)
    simpa using this
  have tW := own_any ht hbW
  have A := Lib.hid (tableW (w.heap.size + 1) d.kind B p fq fq d.recs (.slice va d.tabs.length vc) d.tabs ⟨#[110, 97, 109, 101]⟩ tagName W hd.len rfl n1 tW (v, s0) _ h0 rfl)
  have hqq : s0 = 0 → tabQ p tagName d.tabs = some ⟨p, 0, none⟩ := fun e => tabQ_good p tagName d.tabs (by rw [h0]; simp only; omega)
  generalize tabQ p tagName d.tabs = qq at *
  unfold wq at A
  simp only at A
  have HN := Lib.hid (And.intro n0 n2)
  have HE := Lib.hid eW
  have HR := Lib.hid hr
  clear n0 n1 n2 eW he h hbW hr h0 tW
  go_enter Tryz.func72, Tryz.ntmps72
  go_wp2_with (go_at_call 79; refine A.out.mono ?_; rintro e w1 ⟨rfl, hb1⟩; refine Hid.out ?_)
  obtain ⟨W1, hW1⟩ : ∃ W1, w1.alloc (.cells #[.pointer qq, .int .i64 (v.b : Int), .int .i64 (v.s : Int)] 126) = W1 := ⟨_, rfl⟩
  have bW1 : Below W.heap.size W W1 := by rw [← hW1]; exact hb1.alloc hb1.size _
  have x1 : W1.heap[w1.heap.size]? = some (.cells #[.pointer qq, .int .i64 (v.b : Int), .int .i64 (v.s : Int)] 126 (0, 0)) := by rw [← hW1]; exact new_at _ _
  have f1 := fl_below fW bW1
  have g1 := grown_trans gW (grown_below (some p) bW1)
  have q0 := at_below HN.out.1 bW1
  have q2 := at_below HN.out.2 bW1
  have hs1' := hb1.size
  by_cases c0 : s0 ≠ 0
  · have hr := HR.out
    rw [if_pos c0] at hr
    cases hr
    have d0 : ¬ ((s0 : Int) = 0) := by omega
    clear HR HE HN A hW q0
    have ur0 := cellsAt q2 0
    have ur1 := cellsAt q2 1
    have ur2 := cellsAt q2 2
    have ur3 := cellsAt q2 3
    have ur4 := cellsAt q2 4
    have fz0 := frozenAt q2 0
    have fz1 := frozenAt q2 1
    have fz2 := frozenAt q2 2
    have fz3 := frozenAt q2 3
    have fz4 := frozenAt q2 4
    simp only [List.getElem?_toArray, List.getElem?_cons_zero, List.getElem?_cons_succ] at ur0 ur1 ur2 ur3 ur4
    refine Lib.hid ?_
    go_wp2
    obtain ⟨zr, zf, zg, zs⟩ := end5 (w := w) (.int .i64 (s0 : Int)) (.pointer none) (.int .i64 0) (.int .i64 0) (.slice none 0 0) q2 (by omega) (by omega) f1 g1
    have z0 := cellsAt zr 0
    have z1 := cellsAt zr 1
    have z2 := cellsAt zr 2
    have z3 := cellsAt zr 3
    have z4 := cellsAt zr 4
    simp only [List.getElem?_toArray, List.getElem?_cons_zero, List.getElem?_cons_succ] at z0 z1 z2 z3 z4
    exact bodyPost_ret (v := .agg #[.int .i64 (s0 : Int), .pointer none, .int .i64 0, .int .i64 0, .slice none 0 0]) (by simp [results, Tryz.results72, go_sem, z0, z1, z2, z3, z4]) rfl ⟨_, rfl, World.ownsRow_nil _ _ _ _, zf, zg⟩
  · have hs0 : s0 = 0 := by omega
    subst hs0
    have hq0 := hqq rfl
    subst hq0
    have hr := HR.out
    rw [if_neg (by simp)] at hr
    have B1 := Lib.hid (countW p 6 12 v m D W1 (by omega) (by omega) hin hm f1 c s1 m1 h1)
    unfold wv at B1
    have y0 := cellsAt x1 0
    have y1 := cellsAt x1 1
    have y2 := cellsAt x1 2
    simp only [List.getElem?_toArray, List.getElem?_cons_zero, List.getElem?_cons_succ] at y0 y1 y2
    have hn1 : w1.heap.size ≠ p := by have := fl_lt fW; omega
    have hc20 := (count_any D v 6 12 m)
    rw [h1] at hc20
    simp only at hc20
    clear HR A hW
    refine Lib.hid ?_
    go_wp2_with (go_at_call 98; refine B1.out.mono ?_; rintro e w2 ⟨rfl, k2, g2⟩; refine Hid.out ?_)
    have x2 := grown_at g2 x1 hn1
    have r0 := grown_at g2 q0 (by omega)
    have r2 := grown_at g2 q2 (by omega)
    have gg2 := grown_trans g1 g2
    clear y0 y1 y2 hW1 q0 q2 x1 B1
    by_cases c1 : s1 ≠ 0
    · rw [if_pos c1] at hr
      cases hr
      have d1 : ¬ ((s1 : Int) = 0) := by omega
      clear HE HN
      have ur0 := cellsAt r2 0
      have ur1 := cellsAt r2 1
      have ur2 := cellsAt r2 2
      have ur3 := cellsAt r2 3
      have ur4 := cellsAt r2 4
      have fz0 := frozenAt r2 0
      have fz1 := frozenAt r2 1
      have fz2 := frozenAt r2 2
      have fz3 := frozenAt r2 3
      have fz4 := frozenAt r2 4
      simp only [List.getElem?_toArray, List.getElem?_cons_zero, List.getElem?_cons_succ] at ur0 ur1 ur2 ur3 ur4
      refine Lib.hid ?_
      go_wp2
      obtain ⟨zr, zf, zg, zs⟩ := end5 (w := w) (.int .i64 (s1 : Int)) (.pointer none) (.int .i64 0) (.int .i64 0) (.slice none 0 0) r2 (by omega) (by omega) k2 gg2
      have z0 := cellsAt zr 0
      have z1 := cellsAt zr 1
      have z2 := cellsAt zr 2
      have z3 := cellsAt zr 3
      have z4 := cellsAt zr 4
      simp only [List.getElem?_toArray, List.getElem?_cons_zero, List.getElem?_cons_succ] at z0 z1 z2 z3 z4
      exact bodyPost_ret (v := .agg #[.int .i64 (s1 : Int), .pointer none, .int .i64 0, .int .i64 0, .slice none 0 0]) (by simp [results, Tryz.results72, go_sem, z0, z1, z2, z3, z4]) rfl ⟨_, rfl, World.ownsRow_nil _ _ _ _, zf, zg⟩
    · have hs1z : s1 = 0 := by omega
      subst hs1z
      rw [if_neg (by simp)] at hr
      obtain ⟨l, M', hrun⟩ : ∃ l M', (namesP P v texts c 0 []).run D m2 = (l, M') := ⟨_, _, rfl⟩
      rw [hrun] at hr
      simp only at hr
      cases hr
      have HN2 := Lib.hid (bnd2 D v 4 m1)
      have A1 := Lib.hid (twinW (some ⟨p, 0, none⟩) v 0 (6 + 12 * c) w2 hin.b hin.s (by omega) (by omega))
      have A2 := Lib.hid (fun w f => twoW p 4 v m1 D w (by omega) hin mk1 f)
      rw [h2] at A2 HN2
      simp only at A2 HN2
      have ec : ((6 + 12 * c : Nat) : Int) = 6 + 12 * (c : Int) := by omega
      rw [ec] at A1
      have v1 : IntKind.i64.wrap (12 * (c : Int)) = 12 * (c : Int) := wrapL _ (by omega) (by omega)
      have v2 : IntKind.i64.wrap (6 + 12 * (c : Int)) = 6 + 12 * (c : Int) := wrapL _ (by omega) (by omega)
      unfold wq at A1
      unfold wv at A2
      simp only [Int.ofNat_zero, Int.natCast_zero, Int.cast_ofNat_Int] at A1 A2
      have HRun := Lib.hid hrun
      have HE2 := Lib.hid ((HE.out.below bW1).grow g2)
      clear ec hrun HE HN h1 h2
      have y0 := cellsAt x2 0
      have y1 := cellsAt x2 1
      have y2 := cellsAt x2 2
      simp only [List.getElem?_toArray, List.getElem?_cons_zero, List.getElem?_cons_succ] at y0 y1 y2
      obtain ⟨av, hav⟩ : ∃ av, v.cut 0 (6 + 12 * c) = av := ⟨_, rfl⟩
      rw [hav] at A1
      refine Lib.hid ?_
      go_wp2_with (go_at_call 93; refine A1.out.mono ?_; rintro e w3 ⟨rfl, hb3⟩; refine Hid.out ?_)
      obtain ⟨W4, hW4⟩ : ∃ W4, w3.alloc (.cells #[.int .i64 0, .pointer (some ⟨p, 0, none⟩), .int .i64 (av.b : Int), .int .i64 (av.s : Int), .slice none 0 0] 137) = W4 := ⟨_, rfl⟩
      have b4 : Below w2.heap.size w2 W4 := by rw [← hW4]; exact hb3.alloc hb3.size _
      have sz2 : w1.heap.size < w2.heap.size := at_lt x2
      have sz3 := hb3.size
      have S4 : Sn w w.heap.size w1.heap.size w3.heap.size (w.heap.size + 2) p P ta ia tc ic v av (.slice none 0 0) [] D m1 W4 := by
        have e4 : W4.heap[w3.heap.size]? = some (.cells #[.int .i64 0, .pointer (some ⟨p, 0, none⟩), .int .i64 (av.b : Int), .int .i64 (av.s : Int), .slice none 0 0] 137 (0, 0)) := by rw [← hW4]; exact new_at _ _
        exact ⟨hlt, Nat.le_refl _, by omega, by omega, by omega, by omega, by omega, by omega, grown_trans gg2 (grown_below (some p) b4), at_below r0 b4, at_below x2 b4, e4, at_below r2 b4, World.ownsRow_nil _ _ _ _, fl_below k2 b4, mk1, HE2.out.below b4⟩
      clear y0 y1 y2 A1 v1 v2 x2 r0 r2 gg2 g2 b4 HE2 k2 hb3
      have y0 := cellsAt S4.tb 0
      have y1 := cellsAt S4.tb 1
      have y2 := cellsAt S4.tb 2
      simp only [List.getElem?_toArray, List.getElem?_cons_zero, List.getElem?_cons_succ] at y0 y1 y2
      have B2 := Lib.hid (A2.out W4 S4.hf)
      have HS4 := Lib.hid S4
      clear A2 S4
      subst hW4
      refine Lib.hid ?_
      go_wp2_with (go_at_call 95; refine B2.out.mono ?_; rintro e w5 ⟨rfl, k5, g5⟩; refine Hid.out ?_)
      have S5 := HS4.out.meter g5 k5 mk2
      have szo : w3.heap.size < w5.heap.size := at_lt S5.out
      clear y0 y1 y2 B2 HS4 k5 g5
      refine Lib.hid ?_
      go_wp2_with fail
      go_loopw [38] (fun is wr => ∃ (k : Nat) (mm : Mt) (ll : List Nw) (V : Value), is = .int .i64 (k : Int) ∧ k ≤ c ∧ Hid (ll.length = k) ∧ Sn w w.heap.size w1.heap.size w3.heap.size (w.heap.size + 2) p P ta ia tc ic v av V ll D mm wr ∧ Hid ((namesP P v texts (c - k) k ll).run D mm = (l, M))) (fun is _ => c - (intOf is).toNat)
      case atStart => exact ⟨0, m2, [], _, rfl, Nat.zero_le _, rfl, S5, HRun.out⟩
      case round =>
        obtain ⟨k, mm, ll, V, rfl, hk, HLl, sd, H⟩ := hrel
        by_cases hklt : k < c
        · obtain ⟨x, M1, hx⟩ : ∃ x y, (nameP P v texts (v.cut (6 + 12 * k) 12)).run D mm = (x, y) := ⟨_, _, rfl⟩
          have hmm := sd.hm
          have mkx : MOk M1 := by have := MOk.run D (nameP P v texts (v.cut (6 + 12 * k) 12)) hmm; rw [hx] at this; exact this
          have hs := H.out
          obtain ⟨qq, hq⟩ : ∃ q, c - k = q + 1 := ⟨c - k - 1, by omega⟩
          have hq' : c - (k + 1) = qq := by omega
          rw [hq, names_step D P v texts qq k ll mm M1 x hx, ← hq'] at hs
          have HS := Lib.hid hs
          have hrin := cut_in hin (6 + 12 * k) 12
          have T1 := Lib.hid (twinW (some ⟨p, 0, none⟩) v (6 + 12 * k) 12 wr hin.b hin.s (by omega) (by omega))
          have T2 := Lib.hid (fun w f e => nameW p texts v (v.cut (6 + 12 * k) 12) P (.slice ta P.tags.length tc) (.slice ia P.ids.length ic) mm D w h8 HN2.out hin hrin hmm f e x M1 hx)
          have ek : ((6 + 12 * k : Nat) : Int) = 6 + 12 * (k : Int) := by omega
          rw [ek] at T1
          have v1 : IntKind.i64.wrap (12 * (k : Int)) = 12 * (k : Int) := wrapL _ (by omega) (by omega)
          have v2 : IntKind.i64.wrap (6 + 12 * (k : Int)) = 6 + 12 * (k : Int) := wrapL _ (by omega) (by omega)
          have ik : (k : Int) < (c : Int) := by omega
          clear hs hq hq' H hx hrin ek S5 HRun
          generalize v.cut (6 + 12 * k) 12 = rk at *
          unfold wq at T1
          unfold wv pv nv at T2
          simp only [Int.ofNat_zero, Int.natCast_zero, Int.cast_ofNat_Int] at T1
          have y0 := cellsAt sd.tb 0
          have y1 := cellsAt sd.tb 1
          have y2 := cellsAt sd.tb 2
          simp only [List.getElem?_toArray, List.getElem?_cons_zero, List.getElem?_cons_succ] at y0 y1 y2
          have HSd := Lib.hid sd
          clear sd
          go_wp2_with (go_at_call 93; refine T1.out.mono ?_; rintro e wA ⟨rfl, hbA⟩; refine Hid.out ?_)
          obtain ⟨WA, hWA⟩ : ∃ WA, wA.alloc (.cells #[.pointer (some ⟨p, 0, none⟩), .int .i64 (rk.b : Int), .int .i64 (rk.s : Int)] 126) = WA := ⟨_, rfl⟩
          have bA : Below wr.heap.size wr WA := by rw [← hWA]; exact hbA.alloc hbA.size _
          have sA := HSd.out.below bA
          have rA : WA.heap[wA.heap.size]? = some (.cells #[.pointer (some ⟨p, 0, none⟩), .int .i64 (rk.b : Int), .int .i64 (rk.s : Int)] 126 (0, 0)) := by rw [← hWA]; exact new_at _ _
          have szA : w3.heap.size < wA.heap.size := Nat.lt_of_lt_of_le (at_lt HSd.out.out) hbA.size
          have szA' : WA.heap.size = wA.heap.size + 1 := by rw [← hWA]; simp
          clear y0 y1 y2 T1 v1 v2 HSd hbA bA
          subst hWA
          refine Lib.hid ?_
          go_wp2_with fail
          generalize wA.alloc (.cells #[.pointer (some ⟨p, 0, none⟩), .int .i64 (rk.b : Int), .int .i64 (rk.s : Int)] 126) = WA at *
          obtain ⟨sao, scap, hV⟩ := own_slice sA.ht
          subst hV
          have hl20 : ll.length < 20 := by have := HLl.out; omega
          have ne1 : w.heap.size ≠ w3.heap.size := sA.n1
          have ne2 : w1.heap.size ≠ w3.heap.size := sA.n2
          have ne3 : wA.heap.size ≠ w3.heap.size := by omega
          have ne4 : wA.heap.size ≠ p := by omega
          have ap0 := cellsAt (sA.pol) 0
          have ap1 := cellsAt (sA.pol) 1
          have ap2 := cellsAt (sA.pol) 2
          have at0 := cellsAt (sA.tb) 0
          have at1 := cellsAt (sA.tb) 1
          have at2 := cellsAt (sA.tb) 2
          have ar0 := cellsAt (rA) 0
          have ar1 := cellsAt (rA) 1
          have ar2 := cellsAt (rA) 2
          have ao4 := cellsAt sA.out 4
          simp only [List.getElem?_toArray, List.getElem?_cons_zero, List.getElem?_cons_succ] at ap0 ap1 ap2 at0 at1 at2 ar0 ar1 ar2 ao4
          go_region_law (first
            | (refine step_append_lies _ rfl (.tmp 47) (.tmp 53) 135 rfl w.heap.size 170 i0 (.agg #[.int .i64 0, .int .i64 0, .int .i64 0, .int .i64 0, .int .i64 0, .int .i64 0, .string ⟨#[]⟩, .pointer none, .int .i64 0, .int .i64 0]) 10 88 Tryz.underlying135 hi hz0 hz1 hz2 rfl (by decide) (.slice sao ll.length scap) ll.length (mcells p ll) (by simp [Act.eval, Act.put]) (own_any sB.ht (below_alloc _ _)) ⟨wB.heap.size, 0, none⟩ 1 1 (mcells p [x]) (by simp [Act.eval, Act.put]) rfl (fun j u h => newCells wB _ _ j u h) (fun x hx => by simp [mcells] at hx; rcases hx with rfl | rfl | rfl | rfl | rfl | rfl | rfl | rfl | rfl | rfl <;> rfl) (by decide) (by unfold maxLen; omega) (by omega) (by simp; omega) _ rfl ?_; intro g3 k3 wC o3 gr3 at3 lt3; obtain ⟨z1, z2, z3, rb3⟩ := sB.push (below_alloc _ _) gr3 o3; have z4 := (gr3.block wA.heap.size (at_lt (at_alloc (q := .cells #[.int .i64 (x.pl : Int), .int .i64 (x.en : Int), .int .i64 (x.la : Int), .int .i64 (x.id : Int), .int .i64 (x.st : Int), .int .i64 0, .string ⟨#[]⟩, .pointer (some ⟨p, 0, none⟩), .int .i64 (x.v.b : Int), .int .i64 (x.v.s : Int)] 170) rB)) (fun e => own_kind_ne' (own_any sB.ht (below_alloc _ (.cells #[.int .i64 (x.pl : Int), .int .i64 (x.en : Int), .int .i64 (x.la : Int), .int .i64 (x.id : Int), .int .i64 (x.st : Int), .int .i64 0, .string ⟨#[]⟩, .pointer (some ⟨p, 0, none⟩), .int .i64 (x.v.b : Int), .int .i64 (x.v.s : Int)] 170))) (at_alloc (q := .cells #[.int .i64 (x.pl : Int), .int .i64 (x.en : Int), .int .i64 (x.la : Int), .int .i64 (x.id : Int), .int .i64 (x.st : Int), .int .i64 0, .string ⟨#[]⟩, .pointer (some ⟨p, 0, none⟩), .int .i64 (x.v.b : Int), .int .i64 (x.v.s : Int)] 170) rB) (by decide) e.symm)).trans (at_alloc rB); have dp0 := cellsAt (z1) 0; have dp1 := cellsAt (z1) 1; have dp2 := cellsAt (z1) 2; have dt0 := cellsAt (z2) 0; have dt1 := cellsAt (z2) 1; have dt2 := cellsAt (z2) 2; have dr0 := cellsAt (z4) 0; have dr1 := cellsAt (z4) 1; have dr2 := cellsAt (z4) 2; have do4 := cellsAt z3 4; have df4 := frozenAt z3 4; simp only [List.getElem?_toArray, List.getElem?_cons_zero, List.getElem?_cons_succ] at dp0 dp1 dp2 dt0 dt1 dt2 dr0 dr1 dr2 do4; clear gr3 at3 lt3 o3 z1 z2 z3 z4)
            | (go_simp; go_at_call 99; refine (T2.out _ (sA.below (Below.refl _ _).drew).hf (sA.below (Below.refl _ _).drew).he).mono ?_; rintro e wB ⟨rfl, kB, gB⟩; have sB := (sA.below (Below.refl _ _).drew).meter gB kB mkx; have rB := grown_at gB (at_below rA (Below.refl _ _).drew) (by omega); have szB : w.heap.size ≤ wB.heap.size := sB.hg.size; have bp0 := cellsAt (sB.pol) 0; have bp1 := cellsAt (sB.pol) 1; have bp2 := cellsAt (sB.pol) 2; have bt0 := cellsAt (sB.tb) 0; have bt1 := cellsAt (sB.tb) 1; have bt2 := cellsAt (sB.tb) 2; have br0 := cellsAt (rB) 0; have br1 := cellsAt (rB) 1; have br2 := cellsAt (rB) 2; have cp0 := cellsAt (at_alloc (q := .cells #[.int .i64 (x.pl : Int), .int .i64 (x.en : Int), .int .i64 (x.la : Int), .int .i64 (x.id : Int), .int .i64 (x.st : Int), .int .i64 0, .string ⟨#[]⟩, .pointer (some ⟨p, 0, none⟩), .int .i64 (x.v.b : Int), .int .i64 (x.v.s : Int)] 170) sB.pol) 0; have cp1 := cellsAt (at_alloc (q := .cells #[.int .i64 (x.pl : Int), .int .i64 (x.en : Int), .int .i64 (x.la : Int), .int .i64 (x.id : Int), .int .i64 (x.st : Int), .int .i64 0, .string ⟨#[]⟩, .pointer (some ⟨p, 0, none⟩), .int .i64 (x.v.b : Int), .int .i64 (x.v.s : Int)] 170) sB.pol) 1; have cp2 := cellsAt (at_alloc (q := .cells #[.int .i64 (x.pl : Int), .int .i64 (x.en : Int), .int .i64 (x.la : Int), .int .i64 (x.id : Int), .int .i64 (x.st : Int), .int .i64 0, .string ⟨#[]⟩, .pointer (some ⟨p, 0, none⟩), .int .i64 (x.v.b : Int), .int .i64 (x.v.s : Int)] 170) sB.pol) 2; have ct0 := cellsAt (at_alloc (q := .cells #[.int .i64 (x.pl : Int), .int .i64 (x.en : Int), .int .i64 (x.la : Int), .int .i64 (x.id : Int), .int .i64 (x.st : Int), .int .i64 0, .string ⟨#[]⟩, .pointer (some ⟨p, 0, none⟩), .int .i64 (x.v.b : Int), .int .i64 (x.v.s : Int)] 170) sB.tb) 0; have ct1 := cellsAt (at_alloc (q := .cells #[.int .i64 (x.pl : Int), .int .i64 (x.en : Int), .int .i64 (x.la : Int), .int .i64 (x.id : Int), .int .i64 (x.st : Int), .int .i64 0, .string ⟨#[]⟩, .pointer (some ⟨p, 0, none⟩), .int .i64 (x.v.b : Int), .int .i64 (x.v.s : Int)] 170) sB.tb) 1; have ct2 := cellsAt (at_alloc (q := .cells #[.int .i64 (x.pl : Int), .int .i64 (x.en : Int), .int .i64 (x.la : Int), .int .i64 (x.id : Int), .int .i64 (x.st : Int), .int .i64 0, .string ⟨#[]⟩, .pointer (some ⟨p, 0, none⟩), .int .i64 (x.v.b : Int), .int .i64 (x.v.s : Int)] 170) sB.tb) 2; have cr0 := cellsAt (at_alloc (q := .cells #[.int .i64 (x.pl : Int), .int .i64 (x.en : Int), .int .i64 (x.la : Int), .int .i64 (x.id : Int), .int .i64 (x.st : Int), .int .i64 0, .string ⟨#[]⟩, .pointer (some ⟨p, 0, none⟩), .int .i64 (x.v.b : Int), .int .i64 (x.v.s : Int)] 170) rB) 0; have cr1 := cellsAt (at_alloc (q := .cells #[.int .i64 (x.pl : Int), .int .i64 (x.en : Int), .int .i64 (x.la : Int), .int .i64 (x.id : Int), .int .i64 (x.st : Int), .int .i64 0, .string ⟨#[]⟩, .pointer (some ⟨p, 0, none⟩), .int .i64 (x.v.b : Int), .int .i64 (x.v.s : Int)] 170) rB) 1; have cr2 := cellsAt (at_alloc (q := .cells #[.int .i64 (x.pl : Int), .int .i64 (x.en : Int), .int .i64 (x.la : Int), .int .i64 (x.id : Int), .int .i64 (x.st : Int), .int .i64 0, .string ⟨#[]⟩, .pointer (some ⟨p, 0, none⟩), .int .i64 (x.v.b : Int), .int .i64 (x.v.s : Int)] 170) rB) 2; have bo4 := cellsAt sB.out 4; have co4 := cellsAt (at_alloc (q := .cells #[.int .i64 (x.pl : Int), .int .i64 (x.en : Int), .int .i64 (x.la : Int), .int .i64 (x.id : Int), .int .i64 (x.st : Int), .int .i64 0, .string ⟨#[]⟩, .pointer (some ⟨p, 0, none⟩), .int .i64 (x.v.b : Int), .int .i64 (x.v.s : Int)] 170) sB.out) 4; simp only [List.getElem?_toArray, List.getElem?_cons_zero, List.getElem?_cons_succ] at bp0 bp1 bp2 bt0 bt1 bt2 br0 br1 br2 cp0 cp1 cp2 ct0 ct1 ct2 cr0 cr1 cr2 bo4 co4; clear kB gB))
          all_goals (
            go_wp2
            exact ⟨⟨k + 1, M1, ll ++ [x], _, by go_num, by omega, (by show _ = _; rw [List.length_append, HLl.out]; rfl), rb3, HS⟩, by simp [intOf]; omega⟩)
        · have hs := H.out
          rw [show c - k = 0 by omega, namesP] at hs
          simp only [Pr.run] at hs
          cases hs
          have ik : ¬ ((k : Int) < (c : Int)) := by omega
          obtain ⟨sao, scap, hV⟩ := own_slice sd.ht
          subst hV
          have q0 := cellsAt sd.out 0
          have q1 := cellsAt sd.out 1
          have q2 := cellsAt sd.out 2
          have q3 := cellsAt sd.out 3
          have q4 := cellsAt sd.out 4
          simp only [List.getElem?_toArray, List.getElem?_cons_zero, List.getElem?_cons_succ] at q0 q1 q2 q3 q4
          have ur0 := cellsAt sd.res 0
          have ur1 := cellsAt sd.res 1
          have ur2 := cellsAt sd.res 2
          have ur3 := cellsAt sd.res 3
          have ur4 := cellsAt sd.res 4
          have fz0 := frozenAt sd.res 0
          have fz1 := frozenAt sd.res 1
          have fz2 := frozenAt sd.res 2
          have fz3 := frozenAt sd.res 3
          have fz4 := frozenAt sd.res 4
          simp only [List.getElem?_toArray, List.getElem?_cons_zero, List.getElem?_cons_succ] at ur0 ur1 ur2 ur3 ur4
          have sd' := Lib.hid sd
          clear sd H HRun S5
          go_wp2
          have sd := sd'.out
          obtain ⟨zr, zf, zg, zs⟩ := end5 (w := w) (.int .i64 0) (.pointer (some ⟨p, 0, none⟩)) (.int .i64 (av.b : Int)) (.int .i64 (av.s : Int)) (.slice sao l.length scap) sd.res (by omega) (by omega) sd.hf sd.hg
          have y0 := cellsAt zr 0
          have y1 := cellsAt zr 1
          have y2 := cellsAt zr 2
          have y3 := cellsAt zr 3
          have y4 := cellsAt zr 4
          simp only [List.getElem?_toArray, List.getElem?_cons_zero, List.getElem?_cons_succ] at y0 y1 y2 y3 y4
          exact bodyPost_ret (v := .agg #[.int .i64 0, .pointer (some ⟨p, 0, none⟩), .int .i64 (av.b : Int), .int .i64 (av.s : Int), .slice sao l.length scap]) (by simp [results, Tryz.results72, go_sem, y0, y1, y2, y3, y4]) rfl ⟨_, by first | rfl | (rw [hav]; rfl), sd.ht.kept zs (.inr (own_kind_ne' sd.ht sd.res (by decide))), zf, zg⟩
end Go.Proofs.YteibjmlimcpaoaaGreatDoor.W
