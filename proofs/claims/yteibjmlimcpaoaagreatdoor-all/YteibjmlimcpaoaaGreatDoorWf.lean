/-
  What package look's tell answers: a file's report, as the plain program says; nothing but the meter turns.
  What package window's Open, Spent and Told answer.
  What package look's Inspect answers: as the plain program says; nothing that was there turns.
  What the program's Inspect, a session's Inspect and New answer.
-/
import Derived.Test.YteibjmlimcpaoaaGreatDoorNamB
import Derived.Test.YteibjmlimcpaoaaGreatDoorWc
import Derived.Test.YteibjmlimcpaoaaGreatDoorWd
import Derived.Test.YteibjmlimcpaoaaGreatDoorEa
set_option linter.unusedVariables false
set_option linter.unusedSimpArgs false
namespace Go.Proofs.YteibjmlimcpaoaaGreatDoor.W
open Go.RowKit Go.Sort

theorem tell_run (D : List UInt8) (P : Pol) (n : Nat) (m m1 m2 m3 m4 m5 m6 : Mt) (d : Dir) (ns : Ns) (ha hb hc ra rb rc ca cb : Nat) (cc : Int) (l : List Nm) (t1 t2 t3 : Wn) (s1 s2 s3 : Nat)
    (h1 : (openP P n).run D m = (d, m1)) (h2 : (namingP P d.tabs).run D m1 = (ns, m2)) (e1 : tableOf tagHead d.tabs = (t1, s1)) (e2 : tableOf tagOs2 d.tabs = (t2, s2)) (e3 : tableOf tagCmap d.tabs = (t3, s3))
    (h3 : (headP t1 s1).run D m2 = ((ha, hb, hc), m3)) (h4 : (rightsP t2 s2).run D m3 = ((ra, rb, rc), m4)) (h5 : (toldsP P.text ns.list []).run D m4 = (l, m5)) (h6 : (coverP t3 s3).run D m5 = ((ca, cb, cc), m6)) :
    (tellP P n).run D m = (⟨d.kind, d.tabs.map tabOf, ha, hb, hc, ra, rb, rc, ns.st, l, ca, cb, cc⟩, m6) := by
  unfold tellP
  rw [Pr.run_bind, h1]
  simp only
  rw [Pr.run_bind, h2]
  simp only
  rw [e1, e2, e3]
  simp only
  rw [Pr.run_bind, h3]
  simp only
  rw [Pr.run_bind, h4]
  simp only
  rw [Pr.run_bind, h5]
  simp only
  rw [Pr.run_bind, h6]
  rfl
theorem gsA (k : Nat) : ∀ (vs : List Value) (i : Nat) (w w1 : World), w.grownBy w1 (some k) → w.grownBy (setAll w1 k i vs) (some k)
  | [], i, w, w1, h => h
  | v :: vs, i, w, w1, h => gsA k vs (i + 1) w _ (grown_set h i v)
/-- all cells of a result -/
theorem endN {w w1 : World} {p k : Nat} {m : Mt} {D : List UInt8} {cs : Array Value} {T : TypeId} (vs : List Value) (q : w1.heap[k]? = some (.cells cs T (0, 0))) (hl : cs.toList.length = vs.length) (hk : w.heap.size ≤ k) (hpk : p ≠ k) (hf : FlAt p m D w1) (g : w.grownBy w1 (some p)) :
    (setAll w1 k 0 vs).heap[k]? = some (.cells vs.toArray T (0, 0)) ∧ FlAt p m D (setAll w1 k 0 vs) ∧ w.grownBy (setAll w1 k 0 vs) (some p) ∧ w1.grownBy (setAll w1 k 0 vs) (some k) := by
  obtain ⟨cur, e1, e2⟩ := setAll_row k T vs 0 w1 cs [] cs.toList [] q (by simp) rfl hl
  have gs := gsA k vs 0 w1 w1 (World.grownBy.refl _ _)
  have : cur = vs.toArray := by rw [← Array.toList_inj]; simpa using e2
  rw [this] at e1
  exact ⟨e1, grown_at gs hf hpk, grown_row g gs (fun j hj => by cases hj; exact hk), gs⟩

/-- where the telling of a file stands -/
structure Tl (wb : World) (kp kd kn kr p : Nat) (P : Pol) (ta ia : Option Addr) (tc ic : Nat) (d : Dir) (fq : Option Addr) (VT : Value) (ns : Ns) (nq : Option Addr) (VL : Value) (D : List UInt8) (m : Mt) (w : World) : Prop where
  hp : p < wb.heap.size
  h1 : wb.heap.size ≤ kp
  h2 : wb.heap.size ≤ kd
  h3 : wb.heap.size ≤ kn
  h4 : wb.heap.size ≤ kr
  hg : wb.grownBy w (some p)
  pol : w.heap[kp]? = some (.cells #[.slice ta P.tags.length tc, .slice ia P.ids.length ic, .int .i64 P.text] 25 (0, 0))
  dir : DirAt kd d.kind fq fq d.recs VT w
  nam : w.heap[kn]? = some (.cells #[.int .i64 (ns.st : Int), .pointer nq, .int .i64 (ns.ahead.b : Int), .int .i64 (ns.ahead.s : Int), VL] 137 (0, 0))
  res : w.heap[kr]? = some (.cells #[.int .i64 0, .slice none 0 0, .int .i64 0, .int .i64 0, .int .i64 0, .int .i64 0, .int .i64 0, .int .i64 0, .int .i64 0, .slice none 0 0, .int .i64 0, .int .i64 0, .int .i64 0] 39 (0, 0))
  ht : TabsAt wb.heap.size p d.tabs VT w
  hn : NamsAt wb.heap.size p ns.list VL w
  hf : FlAt p m D w
  hm : MOk m
  he : En P (.slice ta P.tags.length tc) (.slice ia P.ids.length ic) p w
section
variable {wb : World} {kp kd kn kr p : Nat} {P : Pol} {ta ia : Option Addr} {tc ic : Nat} {d : Dir} {fq : Option Addr} {VT : Value} {ns : Ns} {nq : Option Addr} {VL : Value} {D : List UInt8} {m m' : Mt} {w w' : World}
theorem Tl.meter (h : Tl wb kp kd kn kr p P ta ia tc ic d fq VT ns nq VL D m w) (g : w.grownBy w' (some p)) (hf : FlAt p m' D w') (hm : MOk m') : Tl wb kp kd kn kr p P ta ia tc ic d fq VT ns nq VL D m' w' := by
  have hp := h.hp
  have q1 := h.h1
  have q2 := h.h2
  have q3 := h.h3
  have q4 := h.h4
  exact ⟨hp, q1, q2, q3, q4, grown_trans h.hg g, grown_at g h.pol (by omega), grown_at g h.dir (by omega), grown_at g h.nam (by omega), grown_at g h.res (by omega), own_kept_g h.ht g hp, own_kept_g h.hn g hp, hf, hm, h.he.grow g⟩
theorem Tl.below (h : Tl wb kp kd kn kr p P ta ia tc ic d fq VT ns nq VL D m w) (hb : Below w.heap.size w w') : Tl wb kp kd kn kr p P ta ia tc ic d fq VT ns nq VL D m w' :=
  h.meter (grown_below _ hb) (fl_below h.hf hb) h.hm
theorem Tl.size (h : Tl wb kp kd kn kr p P ta ia tc ic d fq VT ns nq VL D m w) : wb.heap.size ≤ w.heap.size := h.hg.size
theorem Tl.keep (h : Tl wb kp kd kn kr p P ta ia tc ic d fq VT ns nq VL D m w) : w.cell? ⟨kd, 0, none⟩ = some (.int .i64 (d.kind : Int)) ∧ w.cell? ⟨kn, 0, none⟩ = some (.int .i64 (ns.st : Int)) ∧ w.cell? ⟨kn, 1, none⟩ = some (.pointer nq) ∧ w.cell? ⟨kn, 2, none⟩ = some (.int .i64 (ns.ahead.b : Int)) ∧ w.cell? ⟨kn, 3, none⟩ = some (.int .i64 (ns.ahead.s : Int)) ∧ w.cell? ⟨kn, 4, none⟩ = some VL ∧ w.cell? ⟨kp, 2, none⟩ = some (.int .i64 P.text) := by
  have d0 := cellsAt h.dir 0
  have n0 := cellsAt h.nam 0
  have n1 := cellsAt h.nam 1
  have n2 := cellsAt h.nam 2
  have n3 := cellsAt h.nam 3
  have n4 := cellsAt h.nam 4
  have p2 := cellsAt h.pol 2
  simp only [List.getElem?_toArray, List.getElem?_cons_zero, List.getElem?_cons_succ] at d0 n0 n1 n2 n3 n4 p2
  exact ⟨d0, n0, n1, n2, n3, n4, p2⟩
theorem Tl.keepS (h : Tl wb kp kd kn kr p P ta ia tc ic d fq VT ns nq VL D m w) (e1 : kd ≠ kr) (e2 : kn ≠ kr) (e3 : kp ≠ kr) (vs : List Value) : (setAll w kr 0 vs).cell? ⟨kd, 0, none⟩ = some (.int .i64 (d.kind : Int)) ∧ (setAll w kr 0 vs).cell? ⟨kn, 0, none⟩ = some (.int .i64 (ns.st : Int)) ∧ (setAll w kr 0 vs).cell? ⟨kn, 1, none⟩ = some (.pointer nq) ∧ (setAll w kr 0 vs).cell? ⟨kn, 2, none⟩ = some (.int .i64 (ns.ahead.b : Int)) ∧ (setAll w kr 0 vs).cell? ⟨kn, 3, none⟩ = some (.int .i64 (ns.ahead.s : Int)) ∧ (setAll w kr 0 vs).cell? ⟨kn, 4, none⟩ = some VL ∧ (setAll w kr 0 vs).cell? ⟨kp, 2, none⟩ = some (.int .i64 P.text) := by
  have d0 := cellsAt ((setAll_other kr vs 0 w kd e1).trans h.dir) 0
  have n0 := cellsAt ((setAll_other kr vs 0 w kn e2).trans h.nam) 0
  have n1 := cellsAt ((setAll_other kr vs 0 w kn e2).trans h.nam) 1
  have n2 := cellsAt ((setAll_other kr vs 0 w kn e2).trans h.nam) 2
  have n3 := cellsAt ((setAll_other kr vs 0 w kn e2).trans h.nam) 3
  have n4 := cellsAt ((setAll_other kr vs 0 w kn e2).trans h.nam) 4
  have p2 := cellsAt ((setAll_other kr vs 0 w kp e3).trans h.pol) 2
  simp only [List.getElem?_toArray, List.getElem?_cons_zero, List.getElem?_cons_succ] at d0 n0 n1 n2 n3 n4 p2
  exact ⟨d0, n0, n1, n2, n3, n4, p2⟩
end
theorem tabOk {p : Nat} {D : List UInt8} {l : List Tw} {tag : List UInt8} {t : Wn} {s : Nat} (hD : D.length ≤ 2000) (hl : ∀ x ∈ l, TB D.length x) (h : tableOf tag l = (t, s)) : s ≤ 8 ∧ (s = 0 → tabQ p tag l = some ⟨p, 0, none⟩ ∧ InF t D) := by
  have a := tableOf_any hl tag
  rw [h] at a
  refine ⟨a.1, fun e => ⟨tabQ_good p tag l (by rw [h]; simp only; omega), a.2, hD⟩⟩

set_option maxRecDepth 100000 in
set_option maxHeartbeats 4000000 in
theorem tellW (p : Nat) (P : Pol) (T I : Value) (m : Mt) (D : List UInt8) (w : World) (h8 : P.tags.length ≤ 8) (h8' : P.ids.length ≤ 8) (hD : D.length ≤ 2000) (hm : MOk m) (h : FlAt p m D w) (he : En P T I p w) (r : Rep) (M : Mt) (hr : (tellP P D.length).run D m = (r, M)) :
    Calls Tryz.prog 55 #[pv T I P.text, .pointer (some ⟨p, 0, none⟩)] w fun e w' => ∃ VA VB, e = .returned (r.val VA VB) ∧ w'.ownsRow w.heap.size 74 3 VA r.lt.length (tcells r.lt) ∧ w'.ownsRow w.heap.size 72 7 VB r.ln.length (ncells r.ln) ∧ FlAt p M D w' ∧ w.grownBy w' (some p) := by
  have hlt := fl_lt h
  have hs1 := he.pol.tags
  have hs2 := he.pol.ids
  obtain ⟨ta, tc, hTe, _⟩ := hs1
  obtain ⟨ia, ic, hIe, _⟩ := hs2
  subst hTe hIe
  obtain ⟨d, m1, h1⟩ : ∃ x y, (openP P D.length).run D m = (x, y) := ⟨_, _, rfl⟩
  obtain ⟨ns, m2, h2⟩ : ∃ x y, (namingP P d.tabs).run D m1 = (x, y) := ⟨_, _, rfl⟩
  obtain ⟨t1, s1, e1⟩ : ∃ x y, tableOf tagHead d.tabs = (x, y) := ⟨_, _, rfl⟩
  obtain ⟨t2, s2, e2⟩ : ∃ x y, tableOf tagOs2 d.tabs = (x, y) := ⟨_, _, rfl⟩
  obtain ⟨t3, s3, e3⟩ : ∃ x y, tableOf tagCmap d.tabs = (x, y) := ⟨_, _, rfl⟩
  obtain ⟨ha, hb, hc, m3, h3⟩ : ∃ x y z u, (headP t1 s1).run D m2 = ((x, y, z), u) := ⟨_, _, _, _, rfl⟩
  obtain ⟨ra, rb, rc, m4, h4⟩ : ∃ x y z u, (rightsP t2 s2).run D m3 = ((x, y, z), u) := ⟨_, _, _, _, rfl⟩
  obtain ⟨l, m5, h5⟩ : ∃ x y, (toldsP P.text ns.list []).run D m4 = (x, y) := ⟨_, _, rfl⟩
  obtain ⟨ca, cb, cc, m6, h6⟩ : ∃ x y z u, (coverP t3 s3).run D m5 = ((x, y, z), u) := ⟨_, _, _, _, rfl⟩
  rw [tell_run D P D.length m m1 m2 m3 m4 m5 m6 d ns ha hb hc ra rb rc ca cb cc l t1 t2 t3 s1 s2 s3 h1 h2 e1 e2 e3 h3 h4 h5 h6] at hr
  cases hr
  have hd : DB D.length d := by have := open_any D P D.length m; rw [h1] at this; exact this
  have hns : SB D.length ns := by have := naming_any D P d.tabs D.length m1 hd.tabs; rw [h2] at this; exact this
  have mk1 : MOk m1 := by have := MOk.run D (openP P D.length) hm; rw [h1] at this; exact this
  have mk2 : MOk m2 := by have := MOk.run D (namingP P d.tabs) mk1; rw [h2] at this; exact this
  have mk3 : MOk m3 := by have := MOk.run D (headP t1 s1) mk2; rw [h3] at this; exact this
  have mk4 : MOk m4 := by have := MOk.run D (rightsP t2 s2) mk3; rw [h4] at this; exact this
  have mk5 : MOk m5 := by have := MOk.run D (toldsP P.text ns.list []) mk4; rw [h5] at this; exact this
  have mk6 : MOk M := by have := MOk.run D (coverP t3 s3) mk5; rw [h6] at this; exact this
  have ok1 := tabOk (p := p) hD hd.tabs e1
  have ok2 := tabOk (p := p) hD hd.tabs e2
  have ok3 := tabOk (p := p) hD hd.tabs e3
  obtain ⟨W, hW⟩ : ∃ W, (w.alloc (.cells #[.slice ta P.tags.length tc, .slice ia P.ids.length ic, .int .i64 P.text] 25)).alloc (.cells #[.int .i64 0, .slice none 0 0, .int .i64 0, .int .i64 0, .int .i64 0, .int .i64 0, .int .i64 0, .int .i64 0, .int .i64 0, .slice none 0 0, .int .i64 0, .int .i64 0, .int .i64 0] 39) = W := ⟨_, rfl⟩
  have hbW : Below w.heap.size w W := by rw [← hW]; exact (below_alloc _ _).alloc (by simp) _
  have gW : w.grownBy W (some p) := grown_below _ hbW
  have fW : FlAt p m D W := fl_below h hbW
  have eW := he.grow gW
  have sW : W.heap.size = w.heap.size + 2 := by rw [← hW]; simp
  have n0 : W.heap[w.heap.size]? = some (.cells #[.slice ta P.tags.length tc, .slice ia P.ids.length ic, .int .i64 P.text] 25 (0, 0)) := by rw [← hW]; exact at_alloc (new_at _ _)
  have n1 : W.heap[w.heap.size + 1]? = some (.cells #[.int .i64 0, .slice none 0 0, .int .i64 0, .int .i64 0, .int .i64 0, .int .i64 0, .int .i64 0, .int .i64 0, .int .i64 0, .slice none 0 0, .int .i64 0, .int .i64 0, .int .i64 0] 39 (0, 0)) := by
    rw [← hW]
    have := new_at (w.alloc (.cells #[.slice ta P.tags.length tc, .slice ia P.ids.length ic, .int .i64 P.text] 25)) (.cells #[.int .i64 0, .slice none 0 0, .int .i64 0, .int .i64 0, .int .i64 0, .int .i64 0, .int .i64 0, .int .i64 0, .int .i64 0, .slice none 0 0, .int .i64 0, .int .i64 0, .int .i64 0] 39)
    simpa using this
  have A1 := Lib.hid (openW p P (.slice ta P.tags.length tc) (.slice ia P.ids.length ic) m D W h8 hD hm fW eW d m1 h1)
  have A2 := Lib.hid (fun VT w' hB f e t => namingW p W.heap.size P (.slice ta P.tags.length tc) (.slice ia P.ids.length ic) VT d m1 D w' h8' hD (by omega) hB hd mk1 f e t ns m2 h2)
  have y0 := cellsAt n0 0
  have y1 := cellsAt n0 1
  have y2 := cellsAt n0 2
  simp only [List.getElem?_toArray, List.getElem?_cons_zero, List.getElem?_cons_succ] at y0 y1 y2
  unfold pv at A1 ⊢
  have HH := Lib.hid (And.intro n0 (And.intro n1 eW))
  have HX := Lib.hid (And.intro ok1 (And.intro ok2 (And.intro ok3 (And.intro h3 (And.intro h4 (And.intro h5 (And.intro h6 (And.intro hd hns))))))))
  clear n0 n1 eW he h hbW h1 h2 h3 h4 h5 h6 hd hns ok1 ok2 ok3
  go_enter Tryz.func55, Tryz.ntmps55
  go_wp2_with (go_at_call 70; refine A1.out.mono ?_; rintro e w1 ⟨VT, rfl, t1', k1, g1⟩; refine Hid.out ?_)
  obtain ⟨va, vc, hV⟩ := own_slice t1'
  subst hV
  obtain ⟨fq, hfq⟩ : ∃ fq, (if d.here = true then some (⟨p, 0, none⟩ : Addr) else none) = fq := ⟨_, rfl⟩
  obtain ⟨nq, hnq⟩ : ∃ nq, (if ns.here = true then some (⟨p, 0, none⟩ : Addr) else none) = nq := ⟨_, rfl⟩
  obtain ⟨n0, n1, eW⟩ := HH.out
  have q0 := grown_at g1 n0 (by omega)
  have q1 := grown_at g1 n1 (by omega)
  have gg1 := grown_trans gW g1
  have ee1 := eW.grow g1
  have szW := g1.size
  obtain ⟨W1, hW1⟩ : ∃ W1, w1.alloc (.cells #[.int .i64 (d.kind : Int), .pointer fq, .pointer fq, .int .i64 (d.recs.b : Int), .int .i64 (d.recs.s : Int), .slice va d.tabs.length vc] 130) = W1 := ⟨_, rfl⟩
  have b1 : Below w1.heap.size w1 W1 := by rw [← hW1]; exact below_alloc _ _
  have dir1 : W1.heap[w1.heap.size]? = some (.cells #[.int .i64 (d.kind : Int), .pointer fq, .pointer fq, .int .i64 (d.recs.b : Int), .int .i64 (d.recs.s : Int), .slice va d.tabs.length vc] 130 (0, 0)) := by rw [← hW1]; exact new_at _ _
  have f1 := fl_below k1 b1
  have ht1 := own_any t1' b1
  have B2 := Lib.hid (A2.out (.slice va d.tabs.length vc) W1 (Nat.le_trans szW b1.size) f1 (ee1.below b1) ht1)
  unfold dv pv at B2
  rw [hfq] at B2
  unfold dv
  rw [hfq]
  have q0' := at_below q0 b1
  have q1' := at_below q1 b1
  have gg1' := grown_trans gg1 (grown_below (some p) b1)
  have HE1 := Lib.hid (ee1.below b1)
  have HT1 := Lib.hid ht1
  clear y0 y1 y2 A1 A2 hW HH n0 n1 eW q0 q1 ee1 gg1 t1' ht1 b1
  have y0 := cellsAt q0' 0
  have y1 := cellsAt q0' 1
  have y2 := cellsAt q0' 2
  have u0 := cellsAt dir1 0
  have u1 := cellsAt dir1 1
  have u2 := cellsAt dir1 2
  have u3 := cellsAt dir1 3
  have u4 := cellsAt dir1 4
  have u5 := cellsAt dir1 5
  simp only [List.getElem?_toArray, List.getElem?_cons_zero, List.getElem?_cons_succ] at y0 y1 y2 u0 u1 u2 u3 u4 u5
  subst hW1
  refine Lib.hid ?_
  go_wp2_with (go_at_call 72; refine B2.out.mono ?_; rintro e w2 ⟨VL, rfl, nl2, k2, g2⟩; refine Hid.out ?_)
  obtain ⟨vb, vd, hV⟩ := own_slice nl2
  subst hV
  unfold nsv
  rw [hnq]
  have szN := g2.size
  have szD := at_lt dir1
  obtain ⟨W2, hW2⟩ : ∃ W2, w2.alloc (.cells #[.int .i64 (ns.st : Int), .pointer nq, .int .i64 (ns.ahead.b : Int), .int .i64 (ns.ahead.s : Int), .slice vb ns.list.length vd] 137) = W2 := ⟨_, rfl⟩
  have b2 : Below w2.heap.size w2 W2 := by rw [← hW2]; exact below_alloc _ _
  have SA : Tl w w.heap.size w1.heap.size w2.heap.size (w.heap.size + 1) p P ta ia tc ic d fq (.slice va d.tabs.length vc) ns nq (.slice vb ns.list.length vd) D m2 W2 := by
    have e2 : W2.heap[w2.heap.size]? = some (.cells #[.int .i64 (ns.st : Int), .pointer nq, .int .i64 (ns.ahead.b : Int), .int .i64 (ns.ahead.s : Int), .slice vb ns.list.length vd] 137 (0, 0)) := by rw [← hW2]; exact new_at _ _
    exact ⟨hlt, Nat.le_refl _, by omega, by omega, by omega, grown_trans (grown_trans gg1' g2) (grown_below (some p) b2), at_below (grown_at g2 q0' (by omega)) b2, at_below (grown_at g2 dir1 (by omega)) b2, e2, at_below (grown_at g2 q1' (by omega)) b2, own_any (own_kept_g (own_lower HT1.out (by omega)) g2 hlt) b2, own_any (own_lower nl2 (by omega)) b2, fl_below k2 b2, mk2, (HE1.out.grow g2).below b2⟩
  clear y0 y1 y2 u0 u1 u2 u3 u4 u5 B2 HE1 HT1 nl2 k2 g2 b2 dir1 q0' q1' gg1' f1 k1 g1
  obtain ⟨ok1, ok2, ok3, h3, h4, h5, h6, hd, hns⟩ := HX.out
  obtain ⟨qa, hqa⟩ : ∃ q, tabQ p tagHead d.tabs = q := ⟨_, rfl⟩
  obtain ⟨qb, hqb⟩ : ∃ q, tabQ p tagOs2 d.tabs = q := ⟨_, rfl⟩
  obtain ⟨qc, hqc⟩ : ∃ q, tabQ p tagCmap d.tabs = q := ⟨_, rfl⟩
  rw [hqa] at ok1
  rw [hqb] at ok2
  rw [hqc] at ok3
  have C1 := Lib.hid (fun w' (s : Tl w w.heap.size w1.heap.size w2.heap.size (w.heap.size + 1) p P ta ia tc ic d fq (.slice va d.tabs.length vc) ns nq (.slice vb ns.list.length vd) D m2 w') => dtoldW w1.heap.size d.kind w.heap.size p fq fq d.recs (.slice va d.tabs.length vc) d.tabs w' hd.len s.size s.dir s.ht)
  have C2 := Lib.hid (fun w' (s : Tl w w.heap.size w1.heap.size w2.heap.size (w.heap.size + 1) p P ta ia tc ic d fq (.slice va d.tabs.length vc) ns nq (.slice vb ns.list.length vd) D m2 w') => tableW w1.heap.size d.kind w.heap.size p fq fq d.recs (.slice va d.tabs.length vc) d.tabs ⟨#[104, 101, 97, 100]⟩ tagHead w' hd.len rfl s.dir s.ht (t1, s1) qa e1 hqa)
  have C3 := Lib.hid (fun w' f => headW p s1 qa t1 m2 D w' ok1.1 ok1.2 mk2 f ha hb hc m3 h3)
  have C4 := Lib.hid (fun w' (s : Tl w w.heap.size w1.heap.size w2.heap.size (w.heap.size + 1) p P ta ia tc ic d fq (.slice va d.tabs.length vc) ns nq (.slice vb ns.list.length vd) D m3 w') => tableW w1.heap.size d.kind w.heap.size p fq fq d.recs (.slice va d.tabs.length vc) d.tabs ⟨#[79, 83, 47, 50]⟩ tagOs2 w' hd.len rfl s.dir s.ht (t2, s2) qb e2 hqb)
  have C5 := Lib.hid (fun w' f => rightsW p s2 qb t2 m3 D w' ok2.1 ok2.2 mk3 f ra rb rc m4 h4)
  have C6 := Lib.hid (fun w' (s : Tl w w.heap.size w1.heap.size w2.heap.size (w.heap.size + 1) p P ta ia tc ic d fq (.slice va d.tabs.length vc) ns nq (.slice vb ns.list.length vd) D m4 w') => nstoldW p w.heap.size P.text ns (.slice vb ns.list.length vd) P _ _ m4 D w' hlt s.size hns hD mk4 s.hf s.he s.hn l m5 h5)
  have C7 := Lib.hid (fun w' (s : Tl w w.heap.size w1.heap.size w2.heap.size (w.heap.size + 1) p P ta ia tc ic d fq (.slice va d.tabs.length vc) ns nq (.slice vb ns.list.length vd) D m5 w') => tableW w1.heap.size d.kind w.heap.size p fq fq d.recs (.slice va d.tabs.length vc) d.tabs ⟨#[99, 109, 97, 112]⟩ tagCmap w' hd.len rfl s.dir s.ht (t3, s3) qc e3 hqc)
  have C8 := Lib.hid (fun w' f => coverW p s3 qc t3 m5 D w' ok3.1 ok3.2 mk5 f ca cb cc M h6)
  unfold nsv at C6
  rw [hnq] at C6
  unfold wq at C2 C3 C4 C5 C7 C8
  simp only at C2 C4 C7
  have ne1 : w1.heap.size ≠ w.heap.size + 1 := by omega
  have ne2 : w2.heap.size ≠ w.heap.size + 1 := by omega
  have ne3 : w.heap.size ≠ w.heap.size + 1 := by omega
  have kp0 := SA.keep
  clear ok1 ok2 ok3 h3 h4 h5 h6 hd hns HX hqa hqb hqc e1 e2 e3 hfq hnq
  subst hW2
  refine Lib.hid ?_
  go_wp2_with fail
  generalize w2.alloc (.cells #[.int .i64 (ns.st : Int), .pointer nq, .int .i64 (ns.ahead.b : Int), .int .i64 (ns.ahead.s : Int), .slice vb ns.list.length vd] 137) = W2 at *
  go_region_held3 (fun w' => w'.cell? ⟨w1.heap.size, 0, none⟩ = some (.int .i64 (d.kind : Int)) ∧ w'.cell? ⟨w2.heap.size, 0, none⟩ = some (.int .i64 (ns.st : Int)) ∧ w'.cell? ⟨w2.heap.size, 1, none⟩ = some (.pointer nq) ∧ w'.cell? ⟨w2.heap.size, 2, none⟩ = some (.int .i64 (ns.ahead.b : Int)) ∧ w'.cell? ⟨w2.heap.size, 3, none⟩ = some (.int .i64 (ns.ahead.s : Int)) ∧ w'.cell? ⟨w2.heap.size, 4, none⟩ = some (.slice vb ns.list.length vd) ∧ w'.cell? ⟨w.heap.size, 2, none⟩ = some (.int .i64 P.text)) (first | (with_reducible assumption) | exact x8.keepS ne1 ne2 ne3 [.int .i64 (d.kind : Int), .slice na1 d.tabs.length na2, .int .i64 (ha : Int), .int .i64 (hb : Int), .int .i64 (hc : Int), .int .i64 (ra : Int), .int .i64 (rb : Int), .int .i64 (rc : Int), .int .i64 (ns.st : Int), .slice nb1 l.length nb2, .int .i64 (ca : Int), .int .i64 (cb : Int), .int .i64 (cc : Int)] | go_keep) (first
    | (go_at_call 82; refine (C8.out _ x7.hf).mono ?_; rintro e wh ⟨rfl, kh, gh⟩; have x8 := x7.meter gh kh mk6; have oA8 := own_kept_g oA7 gh hlt; have oB8 := own_kept_g oB7 gh hlt; have kp8 := x8.keep; have r0 := cellsAt x8.res 0; have r1 := cellsAt x8.res 1; have r2 := cellsAt x8.res 2; have r3 := cellsAt x8.res 3; have r4 := cellsAt x8.res 4; have r5 := cellsAt x8.res 5; have r6 := cellsAt x8.res 6; have r7 := cellsAt x8.res 7; have r8 := cellsAt x8.res 8; have r9 := cellsAt x8.res 9; have r10 := cellsAt x8.res 10; have r11 := cellsAt x8.res 11; have r12 := cellsAt x8.res 12; have z0 := frozenAt x8.res 0; have z1 := frozenAt x8.res 1; have z2 := frozenAt x8.res 2; have z3 := frozenAt x8.res 3; have z4 := frozenAt x8.res 4; have z5 := frozenAt x8.res 5; have z6 := frozenAt x8.res 6; have z7 := frozenAt x8.res 7; have z8 := frozenAt x8.res 8; have z9 := frozenAt x8.res 9; have z10 := frozenAt x8.res 10; have z11 := frozenAt x8.res 11; have z12 := frozenAt x8.res 12; simp only [List.getElem?_toArray, List.getElem?_cons_zero, List.getElem?_cons_succ] at r0 r1 r2 r3 r4 r5 r6 r7 r8 r9 r10 r11 r12; clear kp7)
    | (go_at_call 79; refine (C7.out _ x6).mono ?_; rintro e wg ⟨rfl, bg⟩; have x7 := x6.below bg; have oA7 := own_any oA6 bg; have oB7 := own_any oB6 bg; have kp7 := x7.keep; clear kp6)
    | (go_at_call 81; refine (C6.out _ x5).mono ?_; rintro e wf ⟨VB, rfl, oB, kf, gf⟩; have x6 := x5.meter gf kf mk5; have oA6 := own_kept_g oA5 gf hlt; have oB6 := own_lower oB x5.size; obtain ⟨nb1, nb2, hVB⟩ := own_slice oB; subst hVB; have kp6 := x6.keep; clear kp5 oB)
    | (go_at_call 80; refine (C5.out _ x4.hf).mono ?_; rintro e we ⟨rfl, ke, ge⟩; have x5 := x4.meter ge ke mk4; have oA5 := own_kept_g oA4 ge hlt; have kp5 := x5.keep; clear kp4)
    | (go_at_call 79; refine (C4.out _ x3).mono ?_; rintro e wd ⟨rfl, bd⟩; have x4 := x3.below bd; have oA4 := own_any oA3 bd; have kp4 := x4.keep; clear kp3)
    | (go_at_call 78; refine (C3.out _ x2.hf).mono ?_; rintro e wc ⟨rfl, kc, gc⟩; have x3 := x2.meter gc kc mk3; have oA3 := own_kept_g oA2 gc hlt; have kp3 := x3.keep; clear kp2)
    | (go_at_call 79; refine (C2.out _ x1).mono ?_; rintro e wb ⟨rfl, bb⟩; have x2 := x1.below bb; have oA2 := own_any oA1 bb; have kp2 := x2.keep; clear kp1)
    | (go_at_call 77; refine (C1.out _ (SA.below (Below.refl _ _).drew)).mono ?_; rintro e wa ⟨VA, rfl, oA, ba⟩; have x1 := (SA.below (Below.refl _ _).drew).below ba; have oA1 := own_lower oA (SA.below (Below.refl _ _).drew).size; obtain ⟨na1, na2, hVA⟩ := own_slice oA; subst hVA; have kp1 := x1.keep; clear kp0 oA))
  all_goals (
    go_wp2_with fail
    obtain ⟨zr, zf, zg, zs⟩ := endN (w := w) [.int .i64 (d.kind : Int), .slice na1 d.tabs.length na2, .int .i64 (ha : Int), .int .i64 (hb : Int), .int .i64 (hc : Int), .int .i64 (ra : Int), .int .i64 (rb : Int), .int .i64 (rc : Int), .int .i64 (ns.st : Int), .slice nb1 l.length nb2, .int .i64 (ca : Int), .int .i64 (cb : Int), .int .i64 (cc : Int)] x8.res rfl (by omega) (by omega) x8.hf x8.hg
    simp only [setAll, Nat.zero_add, Nat.reduceAdd] at zr zf zg zs
    have v0 := cellsAt zr 0
    have v1 := cellsAt zr 1
    have v2 := cellsAt zr 2
    have v3 := cellsAt zr 3
    have v4 := cellsAt zr 4
    have v5 := cellsAt zr 5
    have v6 := cellsAt zr 6
    have v7 := cellsAt zr 7
    have v8 := cellsAt zr 8
    have v9 := cellsAt zr 9
    have v10 := cellsAt zr 10
    have v11 := cellsAt zr 11
    have v12 := cellsAt zr 12
    simp only [List.getElem?_toArray, List.getElem?_cons_zero, List.getElem?_cons_succ] at v0 v1 v2 v3 v4 v5 v6 v7 v8 v9 v10 v11 v12
    exact bodyPost_ret (v := .agg #[.int .i64 (d.kind : Int), .slice na1 d.tabs.length na2, .int .i64 (ha : Int), .int .i64 (hb : Int), .int .i64 (hc : Int), .int .i64 (ra : Int), .int .i64 (rb : Int), .int .i64 (rc : Int), .int .i64 (ns.st : Int), .slice nb1 l.length nb2, .int .i64 (ca : Int), .int .i64 (cb : Int), .int .i64 (cc : Int)])  (by simp [results, Tryz.results55, go_sem, v0, v1, v2, v3, v4, v5, v6, v7, v8, v9, v10, v11, v12]) rfl ⟨_, _, rfl, (by show World.ownsRow _ _ _ _ _ (d.tabs.map tabOf).length (tcells (d.tabs.map tabOf)); rw [List.length_map]; exact oA8.kept zs (.inr (own_kind_ne' oA8 x8.res (by decide)))), oB8.kept zs (.inr (own_kind_ne' oB8 x8.res (by decide))), zf, zg⟩)
end Go.Proofs.YteibjmlimcpaoaaGreatDoor.W

set_option linter.unusedVariables false
set_option linter.unusedSimpArgs false
namespace Go.Proofs.YteibjmlimcpaoaaGreatDoor.W
open Go.RowKit Go.Sort

set_option maxRecDepth 100000 in
theorem fopenW (D : List UInt8) (b : Int) (w : World) :
    Calls Tryz.prog 54 #[strV D, .int .i64 b] w fun e w' => e = .returned (.pointer (some ⟨w.heap.size, 0, none⟩)) ∧ FlAt w.heap.size ⟨b.toNat, false, 0, 0⟩ D w' ∧ Below w.heap.size w w' := by
  unfold strV FlAt
  simp only
  have key : ∀ (x : Int), x = (b.toNat : Int) → (w.alloc (.cells #[.int .i64 x, .bool false, .int .i64 0, .int .i64 0, .string ⟨D.toArray⟩] 113)).heap[w.heap.size]? = some (.cells #[.int .i64 (b.toNat : Int), .bool false, .int .i64 ((0 : Nat) : Int), .int .i64 ((0 : Nat) : Int), .string ⟨D.toArray⟩] 113 (0, 0)) := by
    intro x hx
    subst hx
    exact new_at _ _
  have hb := fun (o : Obj) => below_alloc w o
  have HK := Lib.hid key
  have HB := Lib.hid hb
  clear key hb
  by_cases h : 0 ≤ b
  · have h1 : ¬ b < 0 := by omega
    have h2 : max b 0 = b := by omega
    go_enter Tryz.func54, Tryz.ntmps54
    go_wp2
    go_ret
    exact ⟨rfl, new_at _ _, HB.out _⟩
  · have h1 : b < 0 := by omega
    have h2 : max b 0 = 0 := by omega
    go_enter Tryz.func54, Tryz.ntmps54
    go_wp2
    go_ret
    first | exact ⟨rfl, new_at _ _, HB.out _⟩ | exact ⟨rfl, HK.out 0 (by omega), HB.out _⟩

/-- a result of two structs -/
theorem endI {w w1 : World} {k1 k2 : Nat} {cs1 cs2 : Array Value} {T1 T2 : TypeId} (vs1 vs2 : List Value) (q1 : w1.heap[k1]? = some (.cells cs1 T1 (0, 0))) (q2 : w1.heap[k2]? = some (.cells cs2 T2 (0, 0))) (l1 : cs1.toList.length = vs1.length) (l2 : cs2.toList.length = vs2.length) (ne : k1 ≠ k2) (h1 : w.heap.size ≤ k1) (h2 : w.heap.size ≤ k2) (hb : Below w.heap.size w w1) :
    (setAll (setAll w1 k1 0 vs1) k2 0 vs2).heap[k1]? = some (.cells vs1.toArray T1 (0, 0)) ∧ (setAll (setAll w1 k1 0 vs1) k2 0 vs2).heap[k2]? = some (.cells vs2.toArray T2 (0, 0)) ∧ Below w.heap.size w (setAll (setAll w1 k1 0 vs1) k2 0 vs2) ∧ w1.grownBy (setAll w1 k1 0 vs1) (some k1) ∧ (setAll w1 k1 0 vs1).grownBy (setAll (setAll w1 k1 0 vs1) k2 0 vs2) (some k2) := by
  obtain ⟨c1, e1, e2⟩ := setAll_row k1 T1 vs1 0 w1 cs1 [] cs1.toList [] q1 (by simp) rfl l1
  have q2' : (setAll w1 k1 0 vs1).heap[k2]? = some (.cells cs2 T2 (0, 0)) := (setAll_other k1 vs1 0 w1 k2 (Ne.symm ne)).trans q2
  obtain ⟨c2, e3, e4⟩ := setAll_row k2 T2 vs2 0 (setAll w1 k1 0 vs1) cs2 [] cs2.toList [] q2' (by simp) rfl l2
  have t1 : c1 = vs1.toArray := by rw [← Array.toList_inj]; simpa using e2
  have t2 : c2 = vs2.toArray := by rw [← Array.toList_inj]; simpa using e4
  rw [t1] at e1
  rw [t2] at e3
  exact ⟨(setAll_other k2 vs2 0 _ k1 ne).trans e1, e3, setAll_below h2 _ _ _ _ (setAll_below h1 _ _ _ _ hb), gsA k1 vs1 0 w1 w1 (World.grownBy.refl _ _), gsA k2 vs2 0 _ _ (World.grownBy.refl _ _)⟩
end Go.Proofs.YteibjmlimcpaoaaGreatDoor.W

set_option linter.unusedVariables false
set_option linter.unusedSimpArgs false
namespace Go.Proofs.YteibjmlimcpaoaaGreatDoor.W
open Go.RowKit Go.Sort

theorem ok_len {P : Pol} (h : P.ok = true) : P.tags.length ≤ 8 ∧ P.ids.length ≤ 8 := by
  rw [ok_parts] at h
  simp only [Bool.and_eq_true, decide_eq_true_eq] at h
  exact ⟨h.1.1.1.1, h.1.1.1.2⟩

set_option maxRecDepth 100000 in
set_option maxHeartbeats 4000000 in
theorem linspW (P : Pol) (T I : Value) (D : List UInt8) (b : Int) (w : World) (hD : D.length ≤ 9223372036854775807) (hb : b ≤ 9223372036854775807) (hp : PolIs P T I w) (hg : Gl w) (htab : w.cell? ⟨7, 15, none⟩ = some (.int .u8 4)) (r : Rep) (st rd : Nat) (er : Int) (hr : inspOf P D b = (r, (st, rd), er)) :
    Calls Tryz.prog 32 #[pv T I P.text, strV D, .int .i64 b] w fun e w' => ∃ VA VB, e = .returned (.tuple #[r.val VA VB, .agg #[.int .i64 (st : Int), .int .i64 (rd : Int)], .int .i64 er]) ∧ w'.ownsRow w.heap.size 74 3 VA r.lt.length (tcells r.lt) ∧ w'.ownsRow w.heap.size 72 7 VB r.ln.length (ncells r.ln) ∧ Below w.heap.size w w' := by
  have hs1 := hp.tags
  have hs2 := hp.ids
  obtain ⟨ta, tc, hTe, _⟩ := hs1
  obtain ⟨ia, ic, hIe, _⟩ := hs2
  subst hTe hIe
  obtain ⟨W, hW⟩ : ∃ W, ((w.alloc (.cells #[.slice ta P.tags.length tc, .slice ia P.ids.length ic, .int .i64 P.text] 25)).alloc (.cells #[.int .i64 0, .slice none 0 0, .int .i64 0, .int .i64 0, .int .i64 0, .int .i64 0, .int .i64 0, .int .i64 0, .int .i64 0, .slice none 0 0, .int .i64 0, .int .i64 0, .int .i64 0] 39)).alloc (.cells #[.int .i64 0, .int .i64 0] 41) = W := ⟨_, rfl⟩
  have hbW : Below w.heap.size w W := by rw [← hW]; exact ((below_alloc _ _).alloc (by simp) _).alloc (by simp; omega) _
  have sW : W.heap.size = w.heap.size + 3 := by rw [← hW]; simp
  have n0 : W.heap[w.heap.size]? = some (.cells #[.slice ta P.tags.length tc, .slice ia P.ids.length ic, .int .i64 P.text] 25 (0, 0)) := by rw [← hW]; exact at_alloc (at_alloc (new_at _ _))
  have n1 : W.heap[w.heap.size + 1]? = some (.cells #[.int .i64 0, .slice none 0 0, .int .i64 0, .int .i64 0, .int .i64 0, .int .i64 0, .int .i64 0, .int .i64 0, .int .i64 0, .slice none 0 0, .int .i64 0, .int .i64 0, .int .i64 0] 39 (0, 0)) := by
    rw [← hW]
    refine at_alloc ?_
    have := new_at (w.alloc (.cells #[.slice ta P.tags.length tc, .slice ia P.ids.length ic, .int .i64 P.text] 25)) (.cells #[.int .i64 0, .slice none 0 0, .int .i64 0, .int .i64 0, .int .i64 0, .int .i64 0, .int .i64 0, .int .i64 0, .int .i64 0, .slice none 0 0, .int .i64 0, .int .i64 0, .int .i64 0] 39)
    simpa using this
  have n2 : W.heap[w.heap.size + 2]? = some (.cells #[.int .i64 0, .int .i64 0] 41 (0, 0)) := by
    rw [← hW]
    have := new_at ((w.alloc (.cells #[.slice ta P.tags.length tc, .slice ia P.ids.length ic, .int .i64 P.text] 25)).alloc (.cells #[.int .i64 0, .slice none 0 0, .int .i64 0, .int .i64 0, .int .i64 0, .int .i64 0, .int .i64 0, .int .i64 0, .int .i64 0, .slice none 0 0, .int .i64 0, .int .i64 0, .int .i64 0] 39)) (.cells #[.int .i64 0, .int .i64 0] 41)
    simpa using this
  have A1 := Lib.hid (refusalW P (.slice ta P.tags.length tc) (.slice ia P.ids.length ic) D W hD (hp.on hbW))
  have y0 := cellsAt n0 0
  have y1 := cellsAt n0 1
  have y2 := cellsAt n0 2
  simp only [List.getElem?_toArray, List.getElem?_cons_zero, List.getElem?_cons_succ] at y0 y1 y2
  unfold pv strV at A1 ⊢
  have HH := Lib.hid (And.intro n0 (And.intro n1 n2))
  have HP := Lib.hid (And.intro hp (And.intro hg htab))
  have HR := Lib.hid hr
  obtain ⟨ee, hee⟩ : ∃ ee, refuseN P D.length = ee := ⟨_, rfl⟩
  rw [hee] at A1
  have HEE := Lib.hid hee
  have HBb := Lib.hid hb
  have HDd := Lib.hid hD
  clear n0 n1 n2 hp hg htab hr hee hb hD
  go_enter Tryz.func32, Tryz.ntmps32
  go_wp2_with (go_at_call 53; refine A1.out.mono ?_; rintro e w1 ⟨rfl, hb1⟩; refine Hid.out ?_)
  obtain ⟨n0, n1, n2⟩ := HH.out
  have q0 := at_below n0 hb1
  have q1 := at_below n1 hb1
  have q2 := at_below n2 hb1
  have hbw1 : Below w.heap.size w w1 := hbW.trans (hb1.mono (by omega))
  have s1 := hb1.size
  clear y0 y1 y2 n0 n1 n2 A1 hW HH
  by_cases c0 : ee ≠ 0
  · have hr := HR.out
    have hin : inspOf P D b = (Rep.none, (0, 0), ee) := by
      have := HEE.out
      unfold refuseN at this
      unfold inspOf
      split
      · rename_i h; rw [if_pos h] at this; rw [← this]
      · rename_i h
        rw [if_neg h] at this
        split
        · rename_i h2; rw [if_pos h2] at this; rw [← this]
        · rename_i h2; rw [if_neg h2] at this; exact absurd this.symm c0
    rw [hin] at hr
    have d0 : ¬ (ee = 0) := c0
    cases hr
    clear HR HP hin q0
    have a0 := cellsAt q1 0
    have a1 := cellsAt q1 1
    have a2 := cellsAt q1 2
    have a3 := cellsAt q1 3
    have a4 := cellsAt q1 4
    have a5 := cellsAt q1 5
    have a6 := cellsAt q1 6
    have a7 := cellsAt q1 7
    have a8 := cellsAt q1 8
    have a9 := cellsAt q1 9
    have a10 := cellsAt q1 10
    have a11 := cellsAt q1 11
    have a12 := cellsAt q1 12
    have f0 := frozenAt q1 0
    have f1 := frozenAt q1 1
    have f2 := frozenAt q1 2
    have f3 := frozenAt q1 3
    have f4 := frozenAt q1 4
    have f5 := frozenAt q1 5
    have f6 := frozenAt q1 6
    have f7 := frozenAt q1 7
    have f8 := frozenAt q1 8
    have f9 := frozenAt q1 9
    have f10 := frozenAt q1 10
    have f11 := frozenAt q1 11
    have f12 := frozenAt q1 12
    have b0 := cellsAt q2 0
    have b1 := cellsAt q2 1
    have g0 := frozenAt q2 0
    have g1 := frozenAt q2 1
    simp only [List.getElem?_toArray, List.getElem?_cons_zero, List.getElem?_cons_succ] at a0 a1 a2 a3 a4 a5 a6 a7 a8 a9 a10 a11 a12 b0 b1
    refine Lib.hid ?_
    go_wp2
    obtain ⟨zr, zm, zb, zs1, zs2⟩ := endI (w := w) [.int .i64 0, .slice none 0 0, .int .i64 0, .int .i64 0, .int .i64 0, .int .i64 0, .int .i64 0, .int .i64 0, .int .i64 0, .slice none 0 0, .int .i64 0, .int .i64 0, .int .i64 0] [.int .i64 0, .int .i64 0] q1 q2 rfl rfl (by omega) (by omega) (by omega) hbw1
    simp only [setAll, Nat.zero_add, Nat.reduceAdd] at zr zm zb zs1 zs2
    have v0 := cellsAt zr 0
    have v1 := cellsAt zr 1
    have v2 := cellsAt zr 2
    have v3 := cellsAt zr 3
    have v4 := cellsAt zr 4
    have v5 := cellsAt zr 5
    have v6 := cellsAt zr 6
    have v7 := cellsAt zr 7
    have v8 := cellsAt zr 8
    have v9 := cellsAt zr 9
    have v10 := cellsAt zr 10
    have v11 := cellsAt zr 11
    have v12 := cellsAt zr 12
    have o0 := cellsAt zm 0
    have o1 := cellsAt zm 1
    simp only [List.getElem?_toArray, List.getElem?_cons_zero, List.getElem?_cons_succ] at v0 v1 v2 v3 v4 v5 v6 v7 v8 v9 v10 v11 v12 o0 o1
    exact bodyPost_ret (v := .tuple #[.agg #[.int .i64 0, .slice none 0 0, .int .i64 0, .int .i64 0, .int .i64 0, .int .i64 0, .int .i64 0, .int .i64 0, .int .i64 0, .slice none 0 0, .int .i64 0, .int .i64 0, .int .i64 0], .agg #[.int .i64 0, .int .i64 0], .int .i64 (er)]) (by simp [results, Tryz.results32, go_sem, v0, v1, v2, v3, v4, v5, v6, v7, v8, v9, v10, v11, v12, o0, o1]) rfl ⟨_, _, rfl, World.ownsRow_nil _ _ _ _, World.ownsRow_nil _ _ _ _, zb⟩
  · have hee0 : ee = 0 := by omega
    subst hee0
    have hok : P.ok = true ∧ D.length ≤ 2000 := by
      have := HEE.out
      unfold refuseN at this
      split at this
      · exact absurd this (by decide)
      · split at this
        · exact absurd this (by decide)
        · rename_i h1 h2; exact ⟨by simpa using h1, by omega⟩
    obtain ⟨r', M, hrun⟩ : ∃ r' M, (tellP P D.length).run D ⟨b.toNat, false, 0, 0⟩ = (r', M) := ⟨_, _, rfl⟩
    have hr := HR.out
    unfold inspOf at hr
    rw [if_neg (by simp [hok.1]), if_neg (by omega), hrun] at hr
    simp only at hr
    have hm0 : MOk ⟨b.toNat, false, 0, 0⟩ := ⟨by have := HBb.out; simp only; omega, by have := HBb.out; simp only; omega, by have := HBb.out; simp only; omega⟩
    have A2 := Lib.hid (fopenW D b w1)
    unfold strV at A2
    have HRun := Lib.hid hrun
    have HRr := Lib.hid hr
    have HOk := Lib.hid hok
    clear hok hrun hr HR HEE
    refine Lib.hid ?_
    go_wp2_with (go_at_call 54; refine A2.out.mono ?_; rintro e w2 ⟨rfl, k2, hb2⟩; refine Hid.out ?_)
    have p0 := at_below q0 hb2
    have p1 := at_below q1 hb2
    have p2 := at_below q2 hb2
    have hbw2 : Below w.heap.size w w2 := hbw1.trans (hb2.mono (by omega))
    have en2 : En P (.slice ta P.tags.length tc) (.slice ia P.ids.length ic) w1.heap.size w2 := ⟨w, hbw2, by omega, HP.out.1, HP.out.2.1, HP.out.2.2⟩
    have A3 := Lib.hid (tellW w1.heap.size P _ _ _ D w2 (ok_len HOk.out.1).1 (ok_len HOk.out.1).2 HOk.out.2 hm0 k2 en2 r' M HRun.out)
    unfold pv Rep.val at A3
    have y0 := cellsAt p0 0
    have y1 := cellsAt p0 1
    have y2 := cellsAt p0 2
    simp only [List.getElem?_toArray, List.getElem?_cons_zero, List.getElem?_cons_succ] at y0 y1 y2
    have sz2 := hb2.size
    clear A2 en2 HRun HOk HP q0 q1 q2 hb2
    refine Lib.hid ?_
    go_wp2_with (go_at_call 55; refine A3.out.mono ?_; rintro e w3 ⟨VA, VB, rfl, oA, oB, k3, g3⟩; refine Hid.out ?_)
    obtain ⟨na1, na2, hVA⟩ := own_slice oA
    subst hVA
    obtain ⟨nb1, nb2, hVB⟩ := own_slice oB
    subst hVB
    have l0 := at_lt p0
    have u1 := grown_at g3 p1 (by omega)
    have u2 := grown_at g3 p2 (by omega)
    have hbw3 : Below w.heap.size w w3 := hbw2.grown g3 hbw2.size (fun j hj => by cases hj; omega)
    have oA3 := own_lower oA hbw2.size
    have oB3 := own_lower oB hbw2.size
    have sz3 := hbw3.size
    have sz3' := g3.size
    obtain ⟨W4, hW4⟩ : ∃ W4, w3.alloc (.cells #[.int .i64 r'.kind, .slice na1 r'.lt.length na2, .int .i64 r'.hs, .int .i64 r'.hf, .int .i64 r'.hu, .int .i64 r'.rs, .int .i64 r'.rv, .int .i64 r'.rb, .int .i64 r'.nm, .slice nb1 r'.ln.length nb2, .int .i64 r'.cs, .int .i64 r'.cf, .int .i64 r'.cc] 39) = W4 := ⟨_, rfl⟩
    have b4 : Below w3.heap.size w3 W4 := by rw [← hW4]; exact below_alloc _ _
    have x4 : W4.heap[w3.heap.size]? = some (.cells #[.int .i64 r'.kind, .slice na1 r'.lt.length na2, .int .i64 r'.hs, .int .i64 r'.hf, .int .i64 r'.hu, .int .i64 r'.rs, .int .i64 r'.rv, .int .i64 r'.rb, .int .i64 r'.nm, .slice nb1 r'.ln.length nb2, .int .i64 r'.cs, .int .i64 r'.cf, .int .i64 r'.cc] 39 (0, 0)) := by rw [← hW4]; exact new_at _ _
    have x1 := at_below u1 b4
    have x2 := at_below u2 b4
    have k4 := fl_below k3 b4
    have hbw4 : Below w.heap.size w W4 := hbw3.trans (b4.mono (by omega))
    have oA4 := own_any oA3 b4
    have oB4 := own_any oB3 b4
    have A4 := Lib.hid (spentW w1.heap.size M D W4 k4)
    have A5 := Lib.hid (toldW w1.heap.size M D W4 k4)
    have hr := HRr.out
    have lx := at_lt u2
    have HO := Lib.hid (And.intro oA4 (And.intro oB4 k4))
    clear y0 y1 y2 A3 p0 p1 p2 k2 hbw2 oA oB u1 u2 k3 g3 oA3 oB3 hbw3 k4 HRr oA4 oB4
    cases hsp : M.spent with
    | true =>
      rw [hsp] at hr A4
      rw [if_pos rfl] at hr
      cases hr
      clear x4 HO
      subst hW4
      refine Lib.hid ?_
      go_wp2_with (first | (go_at_call 56; refine A4.out.mono ?_; rintro e w5 ⟨rfl, hw5⟩; have hw5 := hw5.symm; subst hw5) | (go_at_call 57; refine A5.out.mono ?_; rintro e w6 ⟨rfl, hb6⟩; refine Hid.out ?_))
      have z1 := at_below x1 hb6
      have z2 := at_below x2 hb6
      have hbw6 := hbw4.trans (hb6.mono hbw4.size)
      have a0 := cellsAt z1 0
      have a1 := cellsAt z1 1
      have a2 := cellsAt z1 2
      have a3 := cellsAt z1 3
      have a4 := cellsAt z1 4
      have a5 := cellsAt z1 5
      have a6 := cellsAt z1 6
      have a7 := cellsAt z1 7
      have a8 := cellsAt z1 8
      have a9 := cellsAt z1 9
      have a10 := cellsAt z1 10
      have a11 := cellsAt z1 11
      have a12 := cellsAt z1 12
      have f0 := frozenAt z1 0
      have f1 := frozenAt z1 1
      have f2 := frozenAt z1 2
      have f3 := frozenAt z1 3
      have f4 := frozenAt z1 4
      have f5 := frozenAt z1 5
      have f6 := frozenAt z1 6
      have f7 := frozenAt z1 7
      have f8 := frozenAt z1 8
      have f9 := frozenAt z1 9
      have f10 := frozenAt z1 10
      have f11 := frozenAt z1 11
      have f12 := frozenAt z1 12
      have b0 := cellsAt z2 0
      have b1 := cellsAt z2 1
      have g0 := frozenAt z2 0
      have g1 := frozenAt z2 1
      simp only [List.getElem?_toArray, List.getElem?_cons_zero, List.getElem?_cons_succ] at a0 a1 a2 a3 a4 a5 a6 a7 a8 a9 a10 a11 a12 b0 b1
      refine Lib.hid ?_
      go_wp2
      obtain ⟨zr, zm, zb, zs1, zs2⟩ := endI (w := w) [.int .i64 0, .slice none 0 0, .int .i64 0, .int .i64 0, .int .i64 0, .int .i64 0, .int .i64 0, .int .i64 0, .int .i64 0, .slice none 0 0, .int .i64 0, .int .i64 0, .int .i64 0] [.int .i64 (M.steps : Int), .int .i64 (M.read : Int)] z1 z2 rfl rfl (by omega) (by omega) (by omega) hbw6
      simp only [setAll, Nat.zero_add, Nat.reduceAdd] at zr zm zb zs1 zs2
      have v0 := cellsAt zr 0
      have v1 := cellsAt zr 1
      have v2 := cellsAt zr 2
      have v3 := cellsAt zr 3
      have v4 := cellsAt zr 4
      have v5 := cellsAt zr 5
      have v6 := cellsAt zr 6
      have v7 := cellsAt zr 7
      have v8 := cellsAt zr 8
      have v9 := cellsAt zr 9
      have v10 := cellsAt zr 10
      have v11 := cellsAt zr 11
      have v12 := cellsAt zr 12
      have o0 := cellsAt zm 0
      have o1 := cellsAt zm 1
      simp only [List.getElem?_toArray, List.getElem?_cons_zero, List.getElem?_cons_succ] at v0 v1 v2 v3 v4 v5 v6 v7 v8 v9 v10 v11 v12 o0 o1
      exact bodyPost_ret (v := .tuple #[.agg #[.int .i64 0, .slice none 0 0, .int .i64 0, .int .i64 0, .int .i64 0, .int .i64 0, .int .i64 0, .int .i64 0, .int .i64 0, .slice none 0 0, .int .i64 0, .int .i64 0, .int .i64 0], .agg #[.int .i64 (M.steps : Int), .int .i64 (M.read : Int)], .int .i64 (4)]) (by simp [results, Tryz.results32, go_sem, v0, v1, v2, v3, v4, v5, v6, v7, v8, v9, v10, v11, v12, o0, o1]) rfl ⟨_, _, rfl, World.ownsRow_nil _ _ _ _, World.ownsRow_nil _ _ _ _, zb⟩
    | false =>
      rw [hsp] at hr A4
      rw [if_neg (by simp)] at hr
      cases hr
      subst hW4
      refine Lib.hid ?_
      go_wp2_with (go_at_call 56; refine A4.out.mono ?_; rintro e w5 ⟨rfl, hw5⟩; have hw5 := hw5.symm; subst hw5)
      have A6 := Lib.hid (fun w f => toldW w1.heap.size M D w f)
      generalize w3.alloc (.cells #[.int .i64 r.kind, .slice na1 r.lt.length na2, .int .i64 r.hs, .int .i64 r.hf, .int .i64 r.hu, .int .i64 r.rs, .int .i64 r.rv, .int .i64 r.rb, .int .i64 r.nm, .slice nb1 r.ln.length nb2, .int .i64 r.cs, .int .i64 r.cf, .int .i64 r.cc] 39) = W4 at *
      have c0 := cellsAt x4 0
      have c1 := cellsAt x4 1
      have c2 := cellsAt x4 2
      have c3 := cellsAt x4 3
      have c4 := cellsAt x4 4
      have c5 := cellsAt x4 5
      have c6 := cellsAt x4 6
      have c7 := cellsAt x4 7
      have c8 := cellsAt x4 8
      have c9 := cellsAt x4 9
      have c10 := cellsAt x4 10
      have c11 := cellsAt x4 11
      have c12 := cellsAt x4 12
      simp only [List.getElem?_toArray, List.getElem?_cons_zero, List.getElem?_cons_succ] at c0 c1 c2 c3 c4 c5 c6 c7 c8 c9 c10 c11 c12
      go_region_with (go_at_call 57; refine (A6.out _ (fl_drew HO.out.2.2)).mono ?_; rintro e w6 ⟨rfl, hb6⟩; have z1 := at_below (at_below x1 (Below.refl _ _).drew) hb6; have z2 := at_below (at_below x2 (Below.refl _ _).drew) hb6; have z4 := at_below (at_below x4 (Below.refl _ _).drew) hb6; have a0 := cellsAt z1 0; have a1 := cellsAt z1 1; have a2 := cellsAt z1 2; have a3 := cellsAt z1 3; have a4 := cellsAt z1 4; have a5 := cellsAt z1 5; have a6 := cellsAt z1 6; have a7 := cellsAt z1 7; have a8 := cellsAt z1 8; have a9 := cellsAt z1 9; have a10 := cellsAt z1 10; have a11 := cellsAt z1 11; have a12 := cellsAt z1 12; have f0 := frozenAt z1 0; have f1 := frozenAt z1 1; have f2 := frozenAt z1 2; have f3 := frozenAt z1 3; have f4 := frozenAt z1 4; have f5 := frozenAt z1 5; have f6 := frozenAt z1 6; have f7 := frozenAt z1 7; have f8 := frozenAt z1 8; have f9 := frozenAt z1 9; have f10 := frozenAt z1 10; have f11 := frozenAt z1 11; have f12 := frozenAt z1 12; have b0 := cellsAt z2 0; have b1 := cellsAt z2 1; have g0 := frozenAt z2 0; have g1 := frozenAt z2 1; have e0 := cellsAt z4 0; have e1 := cellsAt z4 1; have e2 := cellsAt z4 2; have e3 := cellsAt z4 3; have e4 := cellsAt z4 4; have e5 := cellsAt z4 5; have e6 := cellsAt z4 6; have e7 := cellsAt z4 7; have e8 := cellsAt z4 8; have e9 := cellsAt z4 9; have e10 := cellsAt z4 10; have e11 := cellsAt z4 11; have e12 := cellsAt z4 12; simp only [List.getElem?_toArray, List.getElem?_cons_zero, List.getElem?_cons_succ] at a0 a1 a2 a3 a4 a5 a6 a7 a8 a9 a10 a11 a12 b0 b1 e0 e1 e2 e3 e4 e5 e6 e7 e8 e9 e10 e11 e12)
      all_goals (
        go_wp2
        have hbw6 : Below w.heap.size w w6 := hbw4.drew.trans (hb6.mono hbw4.size)
        have o6 := own_any (own_any HO.out.1 (Below.refl _ _).drew) hb6
        have o7 := own_any (own_any HO.out.2.1 (Below.refl _ _).drew) hb6
        obtain ⟨zr, zm, zb, zs1, zs2⟩ := endI (w := w) [.int .i64 r.kind, .slice na1 r.lt.length na2, .int .i64 r.hs, .int .i64 r.hf, .int .i64 r.hu, .int .i64 r.rs, .int .i64 r.rv, .int .i64 r.rb, .int .i64 r.nm, .slice nb1 r.ln.length nb2, .int .i64 r.cs, .int .i64 r.cf, .int .i64 r.cc] [.int .i64 (M.steps : Int), .int .i64 (M.read : Int)] z1 z2 rfl rfl (by omega) (by omega) (by omega) hbw6
        simp only [setAll, Nat.zero_add, Nat.reduceAdd] at zr zm zb zs1 zs2
        have v0 := cellsAt zr 0
        have v1 := cellsAt zr 1
        have v2 := cellsAt zr 2
        have v3 := cellsAt zr 3
        have v4 := cellsAt zr 4
        have v5 := cellsAt zr 5
        have v6 := cellsAt zr 6
        have v7 := cellsAt zr 7
        have v8 := cellsAt zr 8
        have v9 := cellsAt zr 9
        have v10 := cellsAt zr 10
        have v11 := cellsAt zr 11
        have v12 := cellsAt zr 12
        have o0 := cellsAt zm 0
        have o1 := cellsAt zm 1
        simp only [List.getElem?_toArray, List.getElem?_cons_zero, List.getElem?_cons_succ] at v0 v1 v2 v3 v4 v5 v6 v7 v8 v9 v10 v11 v12 o0 o1
        exact bodyPost_ret (v := .tuple #[.agg #[.int .i64 r.kind, .slice na1 r.lt.length na2, .int .i64 r.hs, .int .i64 r.hf, .int .i64 r.hu, .int .i64 r.rs, .int .i64 r.rv, .int .i64 r.rb, .int .i64 r.nm, .slice nb1 r.ln.length nb2, .int .i64 r.cs, .int .i64 r.cf, .int .i64 r.cc], .agg #[.int .i64 (M.steps : Int), .int .i64 (M.read : Int)], .int .i64 (0)]) (by simp [results, Tryz.results32, go_sem, v0, v1, v2, v3, v4, v5, v6, v7, v8, v9, v10, v11, v12, o0, o1]) rfl ⟨_, _, rfl, (o6.kept zs1 (.inr (own_kind_ne' o6 z1 (by decide)))).kept zs2 (.inr (own_kind_ne' o6 z2 (by decide))), (o7.kept zs1 (.inr (own_kind_ne' o7 z1 (by decide)))).kept zs2 (.inr (own_kind_ne' o7 z2 (by decide))), zb⟩
        )
end Go.Proofs.YteibjmlimcpaoaaGreatDoor.W

set_option linter.unusedVariables false
set_option linter.unusedSimpArgs false
namespace Go.Proofs.YteibjmlimcpaoaaGreatDoor.W
open Go.RowKit Go.Sort

set_option maxRecDepth 100000 in
set_option maxHeartbeats 4000000 in
theorem inspectW (P : Pol) (T I : Value) (D : List UInt8) (b : Int) (w : World) (hD : D.length ≤ 9223372036854775807) (hb : b ≤ 9223372036854775807) (hp : PolIs P T I w) (hg : Gl w) (htab : w.cell? ⟨7, 15, none⟩ = some (.int .u8 4)) (r : Rep) (st rd : Nat) (er : Int) (hr : inspOf P D b = (r, (st, rd), er)) :
    Calls Tryz.prog 12 #[pv T I P.text, strV D, .int .i64 b] w fun e w' => ∃ VA VB, e = .returned (.tuple #[r.val VA VB, .agg #[.int .i64 (st : Int), .int .i64 (rd : Int)], .int .i64 er]) ∧ w'.ownsRow w.heap.size 74 3 VA r.lt.length (tcells r.lt) ∧ w'.ownsRow w.heap.size 72 7 VB r.ln.length (ncells r.ln) ∧ Below w.heap.size w w' := by
  have hs1 := hp.tags
  have hs2 := hp.ids
  obtain ⟨ta, tc, hTe, _⟩ := hs1
  obtain ⟨ia, ic, hIe, _⟩ := hs2
  subst hTe hIe
  obtain ⟨W, hW⟩ : ∃ W, ((w.alloc (.cells #[.slice ta P.tags.length tc, .slice ia P.ids.length ic, .int .i64 P.text] 25)).alloc (.cells #[.int .i64 0, .slice none 0 0, .int .i64 0, .int .i64 0, .int .i64 0, .int .i64 0, .int .i64 0, .int .i64 0, .int .i64 0, .slice none 0 0, .int .i64 0, .int .i64 0, .int .i64 0] 39)).alloc (.cells #[.int .i64 0, .int .i64 0] 41) = W := ⟨_, rfl⟩
  have hbW : Below w.heap.size w W := by rw [← hW]; exact ((below_alloc _ _).alloc (by simp) _).alloc (by simp; omega) _
  have sW : W.heap.size = w.heap.size + 3 := by rw [← hW]; simp
  have n0 : W.heap[w.heap.size]? = some (.cells #[.slice ta P.tags.length tc, .slice ia P.ids.length ic, .int .i64 P.text] 25 (0, 0)) := by rw [← hW]; exact at_alloc (at_alloc (new_at _ _))
  have n1 : W.heap[w.heap.size + 1]? = some (.cells #[.int .i64 0, .slice none 0 0, .int .i64 0, .int .i64 0, .int .i64 0, .int .i64 0, .int .i64 0, .int .i64 0, .int .i64 0, .slice none 0 0, .int .i64 0, .int .i64 0, .int .i64 0] 39 (0, 0)) := by
    rw [← hW]
    refine at_alloc ?_
    have := new_at (w.alloc (.cells #[.slice ta P.tags.length tc, .slice ia P.ids.length ic, .int .i64 P.text] 25)) (.cells #[.int .i64 0, .slice none 0 0, .int .i64 0, .int .i64 0, .int .i64 0, .int .i64 0, .int .i64 0, .int .i64 0, .int .i64 0, .slice none 0 0, .int .i64 0, .int .i64 0, .int .i64 0] 39)
    simpa using this
  have n2 : W.heap[w.heap.size + 2]? = some (.cells #[.int .i64 0, .int .i64 0] 41 (0, 0)) := by
    rw [← hW]
    have := new_at ((w.alloc (.cells #[.slice ta P.tags.length tc, .slice ia P.ids.length ic, .int .i64 P.text] 25)).alloc (.cells #[.int .i64 0, .slice none 0 0, .int .i64 0, .int .i64 0, .int .i64 0, .int .i64 0, .int .i64 0, .int .i64 0, .int .i64 0, .slice none 0 0, .int .i64 0, .int .i64 0, .int .i64 0] 39)) (.cells #[.int .i64 0, .int .i64 0] 41)
    simpa using this
  have A1 := Lib.hid (linspW P (.slice ta P.tags.length tc) (.slice ia P.ids.length ic) D b W hD hb (hp.on hbW) (hg.on hbW) ((hbW.cell (p := ⟨7, 15, none⟩) (cell_lt htab)).trans htab) r st rd er hr)
  have y0 := cellsAt n0 0
  have y1 := cellsAt n0 1
  have y2 := cellsAt n0 2
  simp only [List.getElem?_toArray, List.getElem?_cons_zero, List.getElem?_cons_succ] at y0 y1 y2
  unfold pv strV at A1 ⊢
  unfold Rep.val at A1
  have HH := Lib.hid (And.intro n1 n2)
  clear n0 n1 n2 hp hg htab hr hb hD
  go_enter Tryz.func12, Tryz.ntmps12
  go_wp2_with (go_at_call 32; refine A1.out.mono ?_; rintro e w1 ⟨VA, VB, rfl, oA, oB, hb1⟩; refine Hid.out ?_)
  obtain ⟨na1, na2, hVA⟩ := own_slice oA
  subst hVA
  obtain ⟨nb1, nb2, hVB⟩ := own_slice oB
  subst hVB
  have q1 := at_below HH.out.1 hb1
  have q2 := at_below HH.out.2 hb1
  have hbw1 : Below w.heap.size w w1 := hbW.trans (hb1.mono (by omega))
  have o6 := own_lower oA hbW.size
  have o7 := own_lower oB hbW.size
  have HO := Lib.hid (And.intro o6 o7)
  clear y0 y1 y2 A1 hW HH oA oB o6 o7
  have a0 := cellsAt q1 0
  have a1 := cellsAt q1 1
  have a2 := cellsAt q1 2
  have a3 := cellsAt q1 3
  have a4 := cellsAt q1 4
  have a5 := cellsAt q1 5
  have a6 := cellsAt q1 6
  have a7 := cellsAt q1 7
  have a8 := cellsAt q1 8
  have a9 := cellsAt q1 9
  have a10 := cellsAt q1 10
  have a11 := cellsAt q1 11
  have a12 := cellsAt q1 12
  have f0 := frozenAt q1 0
  have f1 := frozenAt q1 1
  have f2 := frozenAt q1 2
  have f3 := frozenAt q1 3
  have f4 := frozenAt q1 4
  have f5 := frozenAt q1 5
  have f6 := frozenAt q1 6
  have f7 := frozenAt q1 7
  have f8 := frozenAt q1 8
  have f9 := frozenAt q1 9
  have f10 := frozenAt q1 10
  have f11 := frozenAt q1 11
  have f12 := frozenAt q1 12
  have b0 := cellsAt q2 0
  have b1 := cellsAt q2 1
  have g0 := frozenAt q2 0
  have g1 := frozenAt q2 1
  simp only [List.getElem?_toArray, List.getElem?_cons_zero, List.getElem?_cons_succ] at a0 a1 a2 a3 a4 a5 a6 a7 a8 a9 a10 a11 a12 b0 b1
  refine Lib.hid ?_
  go_wp2
  obtain ⟨o6, o7⟩ := HO.out
  obtain ⟨zr, zm, zb, zs1, zs2⟩ := endI (w := w) [.int .i64 r.kind, .slice na1 r.lt.length na2, .int .i64 r.hs, .int .i64 r.hf, .int .i64 r.hu, .int .i64 r.rs, .int .i64 r.rv, .int .i64 r.rb, .int .i64 r.nm, .slice nb1 r.ln.length nb2, .int .i64 r.cs, .int .i64 r.cf, .int .i64 r.cc] [.int .i64 (st : Int), .int .i64 (rd : Int)] q1 q2 rfl rfl (by omega) (by omega) (by omega) hbw1
  simp only [setAll, Nat.zero_add, Nat.reduceAdd] at zr zm zb zs1 zs2
  have v0 := cellsAt zr 0
  have v1 := cellsAt zr 1
  have v2 := cellsAt zr 2
  have v3 := cellsAt zr 3
  have v4 := cellsAt zr 4
  have v5 := cellsAt zr 5
  have v6 := cellsAt zr 6
  have v7 := cellsAt zr 7
  have v8 := cellsAt zr 8
  have v9 := cellsAt zr 9
  have v10 := cellsAt zr 10
  have v11 := cellsAt zr 11
  have v12 := cellsAt zr 12
  have o0 := cellsAt zm 0
  have o1 := cellsAt zm 1
  simp only [List.getElem?_toArray, List.getElem?_cons_zero, List.getElem?_cons_succ] at v0 v1 v2 v3 v4 v5 v6 v7 v8 v9 v10 v11 v12 o0 o1
  exact bodyPost_ret (v := .tuple #[.agg #[.int .i64 r.kind, .slice na1 r.lt.length na2, .int .i64 r.hs, .int .i64 r.hf, .int .i64 r.hu, .int .i64 r.rs, .int .i64 r.rv, .int .i64 r.rb, .int .i64 r.nm, .slice nb1 r.ln.length nb2, .int .i64 r.cs, .int .i64 r.cf, .int .i64 r.cc], .agg #[.int .i64 (st : Int), .int .i64 (rd : Int)], .int .i64 (er)]) (by simp [results, Tryz.results12, go_sem, v0, v1, v2, v3, v4, v5, v6, v7, v8, v9, v10, v11, v12, o0, o1]) rfl ⟨_, _, rfl, (o6.kept zs1 (.inr (own_kind_ne' o6 q1 (by decide)))).kept zs2 (.inr (own_kind_ne' o6 q2 (by decide))), (o7.kept zs1 (.inr (own_kind_ne' o7 q1 (by decide)))).kept zs2 (.inr (own_kind_ne' o7 q2 (by decide))), zb⟩
set_option maxRecDepth 100000 in
set_option maxHeartbeats 4000000 in
theorem sinspectW (sp : Addr) (P : Pol) (T I : Value) (D : List UInt8) (b : Int) (w : World) (hD : D.length ≤ 9223372036854775807) (hb : b ≤ 9223372036854775807) (hp : PolIs P T I w) (hg : Gl w) (htab : w.cell? ⟨7, 15, none⟩ = some (.int .u8 4)) (r : Rep) (st rd : Nat) (er : Int) (hr : inspOf P D b = (r, (st, rd), er)) :
    Calls Tryz.prog 30 #[.pointer (some sp), pv T I P.text, strV D, .int .i64 b] w fun e w' => ∃ VA VB, e = .returned (.tuple #[r.val VA VB, .agg #[.int .i64 (st : Int), .int .i64 (rd : Int)], .int .i64 er]) ∧ w'.ownsRow w.heap.size 74 3 VA r.lt.length (tcells r.lt) ∧ w'.ownsRow w.heap.size 72 7 VB r.ln.length (ncells r.ln) ∧ Below w.heap.size w w' := by
  have hs1 := hp.tags
  have hs2 := hp.ids
  obtain ⟨ta, tc, hTe, _⟩ := hs1
  obtain ⟨ia, ic, hIe, _⟩ := hs2
  subst hTe hIe
  obtain ⟨W, hW⟩ : ∃ W, ((w.alloc (.cells #[.slice ta P.tags.length tc, .slice ia P.ids.length ic, .int .i64 P.text] 25)).alloc (.cells #[.int .i64 0, .slice none 0 0, .int .i64 0, .int .i64 0, .int .i64 0, .int .i64 0, .int .i64 0, .int .i64 0, .int .i64 0, .slice none 0 0, .int .i64 0, .int .i64 0, .int .i64 0] 39)).alloc (.cells #[.int .i64 0, .int .i64 0] 41) = W := ⟨_, rfl⟩
  have hbW : Below w.heap.size w W := by rw [← hW]; exact ((below_alloc _ _).alloc (by simp) _).alloc (by simp; omega) _
  have sW : W.heap.size = w.heap.size + 3 := by rw [← hW]; simp
  have n0 : W.heap[w.heap.size]? = some (.cells #[.slice ta P.tags.length tc, .slice ia P.ids.length ic, .int .i64 P.text] 25 (0, 0)) := by rw [← hW]; exact at_alloc (at_alloc (new_at _ _))
  have n1 : W.heap[w.heap.size + 1]? = some (.cells #[.int .i64 0, .slice none 0 0, .int .i64 0, .int .i64 0, .int .i64 0, .int .i64 0, .int .i64 0, .int .i64 0, .int .i64 0, .slice none 0 0, .int .i64 0, .int .i64 0, .int .i64 0] 39 (0, 0)) := by
    rw [← hW]
    refine at_alloc ?_
    have := new_at (w.alloc (.cells #[.slice ta P.tags.length tc, .slice ia P.ids.length ic, .int .i64 P.text] 25)) (.cells #[.int .i64 0, .slice none 0 0, .int .i64 0, .int .i64 0, .int .i64 0, .int .i64 0, .int .i64 0, .int .i64 0, .int .i64 0, .slice none 0 0, .int .i64 0, .int .i64 0, .int .i64 0] 39)
    simpa using this
  have n2 : W.heap[w.heap.size + 2]? = some (.cells #[.int .i64 0, .int .i64 0] 41 (0, 0)) := by
    rw [← hW]
    have := new_at ((w.alloc (.cells #[.slice ta P.tags.length tc, .slice ia P.ids.length ic, .int .i64 P.text] 25)).alloc (.cells #[.int .i64 0, .slice none 0 0, .int .i64 0, .int .i64 0, .int .i64 0, .int .i64 0, .int .i64 0, .int .i64 0, .int .i64 0, .slice none 0 0, .int .i64 0, .int .i64 0, .int .i64 0] 39)) (.cells #[.int .i64 0, .int .i64 0] 41)
    simpa using this
  have A1 := Lib.hid (linspW P (.slice ta P.tags.length tc) (.slice ia P.ids.length ic) D b W hD hb (hp.on hbW) (hg.on hbW) ((hbW.cell (p := ⟨7, 15, none⟩) (cell_lt htab)).trans htab) r st rd er hr)
  have y0 := cellsAt n0 0
  have y1 := cellsAt n0 1
  have y2 := cellsAt n0 2
  simp only [List.getElem?_toArray, List.getElem?_cons_zero, List.getElem?_cons_succ] at y0 y1 y2
  unfold pv strV at A1 ⊢
  unfold Rep.val at A1
  have HH := Lib.hid (And.intro n1 n2)
  clear n0 n1 n2 hp hg htab hr hb hD
  go_enter Tryz.func30, Tryz.ntmps30
  go_wp2_with (go_at_call 32; refine A1.out.mono ?_; rintro e w1 ⟨VA, VB, rfl, oA, oB, hb1⟩; refine Hid.out ?_)
  obtain ⟨na1, na2, hVA⟩ := own_slice oA
  subst hVA
  obtain ⟨nb1, nb2, hVB⟩ := own_slice oB
  subst hVB
  have q1 := at_below HH.out.1 hb1
  have q2 := at_below HH.out.2 hb1
  have hbw1 : Below w.heap.size w w1 := hbW.trans (hb1.mono (by omega))
  have o6 := own_lower oA hbW.size
  have o7 := own_lower oB hbW.size
  have HO := Lib.hid (And.intro o6 o7)
  clear y0 y1 y2 A1 hW HH oA oB o6 o7
  have a0 := cellsAt q1 0
  have a1 := cellsAt q1 1
  have a2 := cellsAt q1 2
  have a3 := cellsAt q1 3
  have a4 := cellsAt q1 4
  have a5 := cellsAt q1 5
  have a6 := cellsAt q1 6
  have a7 := cellsAt q1 7
  have a8 := cellsAt q1 8
  have a9 := cellsAt q1 9
  have a10 := cellsAt q1 10
  have a11 := cellsAt q1 11
  have a12 := cellsAt q1 12
  have f0 := frozenAt q1 0
  have f1 := frozenAt q1 1
  have f2 := frozenAt q1 2
  have f3 := frozenAt q1 3
  have f4 := frozenAt q1 4
  have f5 := frozenAt q1 5
  have f6 := frozenAt q1 6
  have f7 := frozenAt q1 7
  have f8 := frozenAt q1 8
  have f9 := frozenAt q1 9
  have f10 := frozenAt q1 10
  have f11 := frozenAt q1 11
  have f12 := frozenAt q1 12
  have b0 := cellsAt q2 0
  have b1 := cellsAt q2 1
  have g0 := frozenAt q2 0
  have g1 := frozenAt q2 1
  simp only [List.getElem?_toArray, List.getElem?_cons_zero, List.getElem?_cons_succ] at a0 a1 a2 a3 a4 a5 a6 a7 a8 a9 a10 a11 a12 b0 b1
  refine Lib.hid ?_
  go_wp2
  obtain ⟨o6, o7⟩ := HO.out
  obtain ⟨zr, zm, zb, zs1, zs2⟩ := endI (w := w) [.int .i64 r.kind, .slice na1 r.lt.length na2, .int .i64 r.hs, .int .i64 r.hf, .int .i64 r.hu, .int .i64 r.rs, .int .i64 r.rv, .int .i64 r.rb, .int .i64 r.nm, .slice nb1 r.ln.length nb2, .int .i64 r.cs, .int .i64 r.cf, .int .i64 r.cc] [.int .i64 (st : Int), .int .i64 (rd : Int)] q1 q2 rfl rfl (by omega) (by omega) (by omega) hbw1
  simp only [setAll, Nat.zero_add, Nat.reduceAdd] at zr zm zb zs1 zs2
  have v0 := cellsAt zr 0
  have v1 := cellsAt zr 1
  have v2 := cellsAt zr 2
  have v3 := cellsAt zr 3
  have v4 := cellsAt zr 4
  have v5 := cellsAt zr 5
  have v6 := cellsAt zr 6
  have v7 := cellsAt zr 7
  have v8 := cellsAt zr 8
  have v9 := cellsAt zr 9
  have v10 := cellsAt zr 10
  have v11 := cellsAt zr 11
  have v12 := cellsAt zr 12
  have o0 := cellsAt zm 0
  have o1 := cellsAt zm 1
  simp only [List.getElem?_toArray, List.getElem?_cons_zero, List.getElem?_cons_succ] at v0 v1 v2 v3 v4 v5 v6 v7 v8 v9 v10 v11 v12 o0 o1
  exact bodyPost_ret (v := .tuple #[.agg #[.int .i64 r.kind, .slice na1 r.lt.length na2, .int .i64 r.hs, .int .i64 r.hf, .int .i64 r.hu, .int .i64 r.rs, .int .i64 r.rv, .int .i64 r.rb, .int .i64 r.nm, .slice nb1 r.ln.length nb2, .int .i64 r.cs, .int .i64 r.cf, .int .i64 r.cc], .agg #[.int .i64 (st : Int), .int .i64 (rd : Int)], .int .i64 (er)]) (by simp [results, Tryz.results30, go_sem, v0, v1, v2, v3, v4, v5, v6, v7, v8, v9, v10, v11, v12, o0, o1]) rfl ⟨_, _, rfl, (o6.kept zs1 (.inr (own_kind_ne' o6 q1 (by decide)))).kept zs2 (.inr (own_kind_ne' o6 q2 (by decide))), (o7.kept zs1 (.inr (own_kind_ne' o7 q1 (by decide)))).kept zs2 (.inr (own_kind_ne' o7 q2 (by decide))), zb⟩

set_option maxRecDepth 100000 in
theorem newW (w : World) : Calls Tryz.prog 10 #[] w fun e w' => (∃ sp, e = .returned (.pointer (some sp))) ∧ Below w.heap.size w w' := by
  have HB := Lib.hid (fun (o : Obj) => below_alloc w o)
  go_enter Tryz.func10, Tryz.ntmps10
  go_wp2
  go_ret
  exact ⟨⟨_, rfl⟩, HB.out _⟩
end Go.Proofs.YteibjmlimcpaoaaGreatDoor.W
