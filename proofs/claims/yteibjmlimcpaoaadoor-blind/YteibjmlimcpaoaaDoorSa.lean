/-
  The law Steps answers true, and leaves alone what lay in memory.
  The law Steps answers true, and leaves alone what lay in memory.
-/
import Derived.Test.YteibjmlimcpaoaaDoorKa
import Derived.Test.YteibjmlimcpaoaaDoorWf
import Derived.Test.YteibjmlimcpaoaaDoorDa
set_option linter.unusedVariables false
set_option linter.unusedSimpArgs false
namespace Go.Proofs.YteibjmlimcpaoaaDoor.W
open Go.RowKit Go.Sort

def Known : Prop := ∀ x : World, Gl x → x.cell? ⟨7, 15, none⟩ = some (.int .u8 4) → Calls Tryd.prog 23 #[] x fun e w' => e = .returned (.bool true) ∧ Below x.heap.size x w'
theorem wrap_top (x : Int) : wrap64 x ≤ 9223372036854775807 := by
  unfold wrap64
  omega
theorem wrapB {x : Int} (h0 : -9223372036854775808 ≤ x) (h1 : x < 9223372036854775808) : IntKind.i64.wrap x = x := by
  rw [IntKind.wrap_i64]
  omega

set_option maxRecDepth 100000 in
set_option maxHeartbeats 2000000 in
/-- a policy or a file that is refused -/
theorem steps_bad (P : Pol) (T I : Value) (D : List UInt8) (b : Int) (w : World) (hD : D.length ≤ 9223372036854775807) (hp : PolIs P T I w) (hg : Gl w) (htab : w.cell? ⟨7, 15, none⟩ = some (.int .u8 4)) (hK : Known) (er : Int) (he : er = 2 ∨ er = 3) (hr : ∀ bb, inspOf P D bb = (Rep.none, (0, 0), er)) :
    Calls Tryd.prog 8 #[pv T I P.text, strV D, .int .i64 b] w fun e w' => e = .returned (.bool true) ∧ Below w.heap.size w w' := by
  have hs1 := hp.tags
  have hs2 := hp.ids
  obtain ⟨ta, tc, hTe, _⟩ := hs1
  obtain ⟨ia, ic, hIe, _⟩ := hs2
  subst hTe hIe
  obtain ⟨W0, hW0⟩ : ∃ W, w.alloc (.cells #[.slice ta P.tags.length tc, .slice ia P.ids.length ic, .int .i64 P.text] 58) = W := ⟨_, rfl⟩
  have bW0 : Below w.heap.size w W0 := by rw [← hW0]; exact below_alloc _ _
  have p0 : W0.heap[w.heap.size]? = some (.cells #[.slice ta P.tags.length tc, .slice ia P.ids.length ic, .int .i64 P.text] 58 (0, 0)) := by rw [← hW0]; exact new_at _ _
  have HG := Lib.hid (fun (x : World) (h : Below w.heap.size w x) => hg.on h)
  have HB := Lib.hid (fun (x : World) (h : Below w.heap.size w x) => (h.cell (p := ⟨7, 15, none⟩) (cell_lt htab)).trans htab)
  have CK := Lib.hid (hK W0 (HG.out _ bW0) (HB.out _ bW0))
  have CI := Lib.hid (fun (bb : Int) (hbb : bb ≤ 9223372036854775807) (x : World) (h : Below w.heap.size w x) (r : Rep) (st rd : Nat) (er : Int) (hr : inspOf P D bb = (r, (st, rd), er)) => inspectW P (.slice ta P.tags.length tc) (.slice ia P.ids.length ic) D bb x hD hbb (hp.on h) (HG.out x h) (HB.out x h) r st rd er hr)
  unfold pv strV at CI ⊢
  unfold Rep.val at CI
  clear hg htab hK hp
  have CJ := Lib.hid (fun (bb : Int) (hbb : bb ≤ 9223372036854775807) (x : World) (h : Below w.heap.size w x) => CI.out bb hbb x h _ _ _ _ (hr bb))
  simp only [Rep.none, List.length_nil] at CJ
  clear CI hr
  go_enter Tryd.func8, Tryd.ntmps8
  go_wp2_with (go_at_call 23; refine CK.out.mono ?_; rintro e w1 ⟨rfl, hb1⟩; refine Hid.out ?_)
  have b1 := bW0.trans (hb1.mono bW0.size)
  have p1 := at_below p0 hb1
  have y0 := cellsAt p1 0
  have y1 := cellsAt p1 1
  have y2 := cellsAt p1 2
  simp only [List.getElem?_toArray, List.getElem?_cons_zero, List.getElem?_cons_succ] at y0 y1 y2
  have hwr := wrap_top
  clear CK hW0
  refine Lib.hid ?_
  go_wp2_with (go_at_call 25; refine (CJ.out _ (by first | exact hwr _ | omega) w1 b1).mono ?_; rintro e w2 ⟨VA, VB, rfl, oA, oB, hb2⟩; refine Hid.out ?_)
  obtain ⟨a1, a2, hVA⟩ := own_slice oA
  subst hVA
  obtain ⟨a3, a4, hVB⟩ := own_slice oB
  subst hVB
  have b2 := b1.trans (hb2.mono b1.size)
  obtain ⟨W2, hW2⟩ : ∃ W, (w2.alloc (.cells #[.int .i64 0, .slice a1 0 a2, .int .i64 0, .int .i64 0, .int .i64 0, .int .i64 0, .int .i64 0, .int .i64 0, .int .i64 0, .slice a3 0 a4, .int .i64 0, .int .i64 0, .int .i64 0] 37)).alloc (.cells #[.int .i64 0, .int .i64 0] 64) = W := ⟨_, rfl⟩
  have g2 : Below w2.heap.size w2 W2 := by rw [← hW2]; exact (below_alloc _ _).alloc (by simp) _
  have m2 : W2.heap[w2.heap.size + 1]? = some (.cells #[.int .i64 0, .int .i64 0] 64 (0, 0)) := by rw [← hW2]; exact K.new_at1 _ _ _
  have bW2 := b2.trans (g2.mono b2.size)
  have c0 := cellsAt m2 0
  have c1 := cellsAt m2 1
  simp only [List.getElem?_toArray, List.getElem?_cons_zero, List.getElem?_cons_succ] at c0 c1
  subst hW2
  clear y0 y1 y2 CJ hwr oA oB
  refine Lib.hid ?_
  rcases he with rfl | rfl
  all_goals (
    go_wp2
    go_ret
    exact ⟨rfl, bW2⟩)
end Go.Proofs.YteibjmlimcpaoaaDoor.W

set_option linter.unusedVariables false
set_option linter.unusedSimpArgs false
namespace Go.Proofs.YteibjmlimcpaoaaDoor.W
open Go.RowKit Go.Sort


set_option maxRecDepth 100000 in
set_option maxHeartbeats 4000000 in
theorem steps_ok (P : Pol) (T I : Value) (D : List UInt8) (b : Int) (w : World) (hD : D.length ≤ 9223372036854775807) (hD2 : (D.length : Int) ≤ 2000) (hb0 : -9223372036854775808 ≤ b) (hb : b ≤ 9223372036854775807) (hp : PolIs P T I w) (hg : Gl w) (htab : w.cell? ⟨7, 15, none⟩ = some (.int .u8 4)) (hK : Known) (r : Rep) (S Q : Nat) (lim : Int) (hlim : (b < 0 ∧ lim = 0) ∨ (¬ b < 0 ∧ lim = b)) (ln1 : r.lt.length ≤ 1048576) (ln2 : r.ln.length ≤ 1048576) (hS : (S : Int) ≤ 64 * (D.length : Int) + 4096) (hQ1 : (leastR r : Int) ≤ (Q : Int)) (hQ2 : (Q : Int) ≤ 8 * (S : Int))
    (h1 : inspOf P D (64 * (D.length : Int) + 4096) = (r, (S, Q), 0)) (h3 : inspOf P D (S : Int) = (r, (S, Q), 0)) (r4 : Rep) (s4 q4 : Nat) (e4 : Int) (h4 : inspOf P D ((S : Int) - 1) = (r4, (s4, q4), e4)) (he4 : e4 = 4 ∨ (e4 = 0 ∧ ((S : Int) == 0) = true)) (ln3 : r4.lt.length ≤ 1048576)
    (h2 : inspOf P D b = (r, (S, Q), 0)) (hle : (S : Int) ≤ lim) :
    Calls Tryd.prog 8 #[pv T I P.text, strV D, .int .i64 b] w fun e w' => e = .returned (.bool true) ∧ Below w.heap.size w w' := by
  have hs1 := hp.tags
  have hs2 := hp.ids
  obtain ⟨ta, tc, hTe, _⟩ := hs1
  obtain ⟨ia, ic, hIe, _⟩ := hs2
  subst hTe hIe
  obtain ⟨W0, hW0⟩ : ∃ W, w.alloc (.cells #[.slice ta P.tags.length tc, .slice ia P.ids.length ic, .int .i64 P.text] 58) = W := ⟨_, rfl⟩
  have bW0 : Below w.heap.size w W0 := by rw [← hW0]; exact below_alloc _ _
  have p0 : W0.heap[w.heap.size]? = some (.cells #[.slice ta P.tags.length tc, .slice ia P.ids.length ic, .int .i64 P.text] 58 (0, 0)) := by rw [← hW0]; exact new_at _ _
  have HG := Lib.hid (fun (x : World) (h : Below w.heap.size w x) => hg.on h)
  have HB := Lib.hid (fun (x : World) (h : Below w.heap.size w x) => (h.cell (p := ⟨7, 15, none⟩) (cell_lt htab)).trans htab)
  have CK := Lib.hid (hK W0 (HG.out _ bW0) (HB.out _ bW0))
  have CI := Lib.hid (fun (bb : Int) (hbb : bb ≤ 9223372036854775807) (x : World) (h : Below w.heap.size w x) (r : Rep) (st rd : Nat) (er : Int) (hr : inspOf P D bb = (r, (st, rd), er)) => inspectW P (.slice ta P.tags.length tc) (.slice ia P.ids.length ic) D bb x hD hbb (hp.on h) (HG.out x h) (HB.out x h) r st rd er hr)
  unfold pv strV at CI ⊢
  unfold Rep.val at CI
  clear hg htab hK hp
  have C1 := Lib.hid (fun (x : World) (h : Below w.heap.size w x) => CI.out _ (by omega) x h _ _ _ _ h1)
  have C2 := Lib.hid (fun (x : World) (h : Below w.heap.size w x) => CI.out _ hb x h _ _ _ _ h2)
  have C3 := Lib.hid (fun (x : World) (h : Below w.heap.size w x) => CI.out _ (by omega) x h _ _ _ _ h3)
  have C4 := Lib.hid (fun (x : World) (h : Below w.heap.size w x) => CI.out _ (by omega) x h _ _ _ _ h4)
  clear CI h1 h2 h3 h4
  have hs0 : 0 ≤ (S : Int) := by omega
  have hq0 : 0 ≤ (Q : Int) := by omega
  generalize (S : Int) = s at *
  generalize (Q : Int) = q at *
  have wl1 : IntKind.i64.wrap (64 * (D.length : Int)) = 64 * (D.length : Int) := wrapB (by omega) (by omega)
  have wl2 : IntKind.i64.wrap (64 * (D.length : Int) + 4096) = 64 * (D.length : Int) + 4096 := wrapB (by omega) (by omega)
  have wl3 : IntKind.i64.wrap (s - 1) = s - 1 := wrapB (by omega) (by omega)
  have wl4 : IntKind.i64.wrap (8 * s) = 8 * s := wrapB (by omega) (by omega)
  go_enter Tryd.func8, Tryd.ntmps8
  go_wp2_with (go_at_call 23; refine CK.out.mono ?_; rintro e w1 ⟨rfl, hb1⟩; refine Hid.out ?_)
  have b1 := bW0.trans (hb1.mono bW0.size)
  have p1 := at_below p0 hb1
  have y0 := cellsAt p1 0
  have y1 := cellsAt p1 1
  have y2 := cellsAt p1 2
  simp only [List.getElem?_toArray, List.getElem?_cons_zero, List.getElem?_cons_succ] at y0 y1 y2
  have A1 := Lib.hid (C1.out w1 b1)
  clear CK hW0 C1
  refine Lib.hid ?_
  go_wp2_with (go_at_call 25; refine A1.out.mono ?_; rintro e w2 ⟨VA, VB, rfl, oA, oB, hb2⟩; refine Hid.out ?_)
  obtain ⟨a1, a2, hVA⟩ := own_slice oA
  subst hVA
  obtain ⟨a3, a4, hVB⟩ := own_slice oB
  subst hVB
  have b2 := b1.trans (hb2.mono b1.size)
  obtain ⟨W2, hW2⟩ : ∃ W, (w2.alloc (.cells #[.int .i64 r.kind, .slice a1 r.lt.length a2, .int .i64 r.hs, .int .i64 r.hf, .int .i64 r.hu, .int .i64 r.rs, .int .i64 r.rv, .int .i64 r.rb, .int .i64 r.nm, .slice a3 r.ln.length a4, .int .i64 r.cs, .int .i64 r.cf, .int .i64 r.cc] 37)).alloc (.cells #[.int .i64 s, .int .i64 q] 64) = W := ⟨_, rfl⟩
  have g2 : Below w2.heap.size w2 W2 := by rw [← hW2]; exact (below_alloc _ _).alloc (by simp) _
  have r2 : W2.heap[w2.heap.size]? = some (.cells #[.int .i64 r.kind, .slice a1 r.lt.length a2, .int .i64 r.hs, .int .i64 r.hf, .int .i64 r.hu, .int .i64 r.rs, .int .i64 r.rv, .int .i64 r.rb, .int .i64 r.nm, .slice a3 r.ln.length a4, .int .i64 r.cs, .int .i64 r.cf, .int .i64 r.cc] 37 (0, 0)) := by rw [← hW2]; exact at_alloc (new_at _ _)
  have m2 : W2.heap[w2.heap.size + 1]? = some (.cells #[.int .i64 s, .int .i64 q] 64 (0, 0)) := by rw [← hW2]; exact K.new_at1 _ _ _
  have bW2 := b2.trans (g2.mono b2.size)
  have p2 := at_below (at_below p1 hb2) g2
  have oA2 := own_any oA g2
  have oB2 := own_any oB g2
  clear y0 y1 y2 A1 oA oB p1 p0 hb1 hb2 g2
  have x0 := cellsAt r2 0
  have x1 := cellsAt r2 1
  have x2 := cellsAt r2 2
  have x3 := cellsAt r2 3
  have x4 := cellsAt r2 4
  have x5 := cellsAt r2 5
  have x6 := cellsAt r2 6
  have x7 := cellsAt r2 7
  have x8 := cellsAt r2 8
  have x9 := cellsAt r2 9
  have x10 := cellsAt r2 10
  have x11 := cellsAt r2 11
  have x12 := cellsAt r2 12
  simp only [List.getElem?_toArray, List.getElem?_cons_zero, List.getElem?_cons_succ] at x0 x1 x2 x3 x4 x5 x6 x7 x8 x9 x10 x11 x12
  have A1 := Lib.hid (K.leastK r a1 a3 a2 a4 W2 ln1 ln2 (rowOfOwn oA2))
  have HH := Lib.hid (And.intro r2 (And.intro m2 (And.intro p2 (And.intro oA2 oB2))))
  clear r2 m2 p2 oA2 oB2
  refine Lib.hid ?_
  go_wp2_with (go_at_call 27; refine A1.out.mono ?_; rintro e w3 ⟨rfl, hb3⟩; refine Hid.out ?_)
  obtain ⟨r2, m2, p2, oA2, oB2⟩ := HH.out
  have b3 := bW2.trans (hb3.mono bW2.size)
  have r3 := at_below r2 hb3
  have m3 := at_below m2 hb3
  have p3 := at_below p2 hb3
  have oA3 := own_any oA2 hb3
  have oB3 := own_any oB2 hb3
  clear HH r2 m2 p2 oA2 oB2 A1 hW2 hb3 x0 x1 x2 x3 x4 x5 x6 x7 x8 x9 x10 x11 x12
  have u0 := cellsAt m3 0
  have u1 := cellsAt m3 1
  simp only [List.getElem?_toArray, List.getElem?_cons_zero, List.getElem?_cons_succ] at u0 u1
  have y0 := cellsAt p3 0
  have y1 := cellsAt p3 1
  have y2 := cellsAt p3 2
  simp only [List.getElem?_toArray, List.getElem?_cons_zero, List.getElem?_cons_succ] at y0 y1 y2
  have f1 : ¬ (s < 0) := by omega
  have f2 : ¬ (64 * (D.length : Int) + 4096 < s) := by omega
  have f3 : ¬ (q < (leastR r : Int)) := by omega
  have f4 : ¬ (8 * s < q) := by omega
  have A1 := Lib.hid (C2.out w3 b3)
  have HH := Lib.hid (And.intro r3 (And.intro m3 (And.intro p3 (And.intro oA3 oB3))))
  clear r3 m3 p3 oA3 oB3 C2
  refine Lib.hid ?_
  go_wp2_with (go_at_call 25; refine A1.out.mono ?_; rintro e w4 ⟨VA, VB, rfl, oA, oB, hb4⟩; refine Hid.out ?_)
  obtain ⟨r3, m3, p3, oA3, oB3⟩ := HH.out
  obtain ⟨d1, d2, hVA⟩ := own_slice oA
  subst hVA
  obtain ⟨d3, d4, hVB⟩ := own_slice oB
  subst hVB
  have b4 := b3.trans (hb4.mono b3.size)
  obtain ⟨W4, hW4⟩ : ∃ W, (w4.alloc (.cells #[.int .i64 r.kind, .slice d1 r.lt.length d2, .int .i64 r.hs, .int .i64 r.hf, .int .i64 r.hu, .int .i64 r.rs, .int .i64 r.rv, .int .i64 r.rb, .int .i64 r.nm, .slice d3 r.ln.length d4, .int .i64 r.cs, .int .i64 r.cf, .int .i64 r.cc] 37)).alloc (.cells #[.int .i64 s, .int .i64 q] 64) = W := ⟨_, rfl⟩
  have g4 : Below w4.heap.size w4 W4 := by rw [← hW4]; exact (below_alloc _ _).alloc (by simp) _
  have t4 : W4.heap[w4.heap.size]? = some (.cells #[.int .i64 r.kind, .slice d1 r.lt.length d2, .int .i64 r.hs, .int .i64 r.hf, .int .i64 r.hu, .int .i64 r.rs, .int .i64 r.rv, .int .i64 r.rb, .int .i64 r.nm, .slice d3 r.ln.length d4, .int .i64 r.cs, .int .i64 r.cf, .int .i64 r.cc] 37 (0, 0)) := by rw [← hW4]; exact at_alloc (new_at _ _)
  have n4 : W4.heap[w4.heap.size + 1]? = some (.cells #[.int .i64 s, .int .i64 q] 64 (0, 0)) := by rw [← hW4]; exact K.new_at1 _ _ _
  have bW4 := b4.trans (g4.mono b4.size)
  have r4' := at_below (at_below r3 hb4) g4
  have m4 := at_below (at_below m3 hb4) g4
  have p4 := at_below (at_below p3 hb4) g4
  have oA4 := own_any (own_any oA3 hb4) g4
  have oB4 := own_any (own_any oB3 hb4) g4
  have oC4 := own_any oA g4
  have oD4 := own_any oB g4
  clear HH r3 m3 p3 oA3 oB3 oA oB A1 hb4 g4 u0 u1 y0 y1 y2 f1 f2 f3 f4
  have x0 := cellsAt r4' 0
  have x1 := cellsAt r4' 1
  have x2 := cellsAt r4' 2
  have x3 := cellsAt r4' 3
  have x4 := cellsAt r4' 4
  have x5 := cellsAt r4' 5
  have x6 := cellsAt r4' 6
  have x7 := cellsAt r4' 7
  have x8 := cellsAt r4' 8
  have x9 := cellsAt r4' 9
  have x10 := cellsAt r4' 10
  have x11 := cellsAt r4' 11
  have x12 := cellsAt r4' 12
  simp only [List.getElem?_toArray, List.getElem?_cons_zero, List.getElem?_cons_succ] at x0 x1 x2 x3 x4 x5 x6 x7 x8 x9 x10 x11 x12
  have v0 := cellsAt t4 0
  have v1 := cellsAt t4 1
  have v2 := cellsAt t4 2
  have v3 := cellsAt t4 3
  have v4 := cellsAt t4 4
  have v5 := cellsAt t4 5
  have v6 := cellsAt t4 6
  have v7 := cellsAt t4 7
  have v8 := cellsAt t4 8
  have v9 := cellsAt t4 9
  have v10 := cellsAt t4 10
  have v11 := cellsAt t4 11
  have v12 := cellsAt t4 12
  simp only [List.getElem?_toArray, List.getElem?_cons_zero, List.getElem?_cons_succ] at v0 v1 v2 v3 v4 v5 v6 v7 v8 v9 v10 v11 v12
  have A1 := Lib.hid (K.sameK r.kind r.hs r.hf r.hu r.rs r.rv r.rb r.nm r.cs r.cf r.cc (.slice a1 r.lt.length a2) (.slice a3 r.ln.length a4) (.slice d1 r.lt.length d2) (.slice d3 r.ln.length d4) r.lt r.ln W4 ln1 ln2 (rowOfOwn oA4) (rowOfOwn oB4) (rowOfOwn oC4) (rowOfOwn oD4))
  have HH := Lib.hid (And.intro t4 (And.intro m4 (And.intro p4 n4)))
  clear r4' t4 m4 p4 n4 oA4 oB4 oC4 oD4
  refine Lib.hid ?_
  go_wp2_with (go_at_call 26; refine A1.out.mono ?_; rintro e w5 ⟨rfl, hb5⟩; refine Hid.out ?_)
  obtain ⟨t4, m4, p4, n4⟩ := HH.out
  have b5 := bW4.trans (hb5.mono bW4.size)
  have t5 := at_below t4 hb5
  have m5 := at_below m4 hb5
  have p5 := at_below p4 hb5
  have n5 := at_below n4 hb5
  clear HH t4 m4 p4 n4 A1 hW4 hb5 x0 x1 x2 x3 x4 x5 x6 x7 x8 x9 x10 x11 x12 v0 v1 v2 v3 v4 v5 v6 v7 v8 v9 v10 v11 v12
  have v0 := cellsAt t5 0
  have v1 := cellsAt t5 1
  have v2 := cellsAt t5 2
  have v3 := cellsAt t5 3
  have v4 := cellsAt t5 4
  have v5 := cellsAt t5 5
  have v6 := cellsAt t5 6
  have v7 := cellsAt t5 7
  have v8 := cellsAt t5 8
  have v9 := cellsAt t5 9
  have v10 := cellsAt t5 10
  have v11 := cellsAt t5 11
  have v12 := cellsAt t5 12
  simp only [List.getElem?_toArray, List.getElem?_cons_zero, List.getElem?_cons_succ] at v0 v1 v2 v3 v4 v5 v6 v7 v8 v9 v10 v11 v12
  obtain ⟨qq, hqq⟩ : ∃ q, decide (r.kind = 0 ∧ (r.hs = 0 ∧ r.hf = 0 ∧ r.hu = 0) ∧ (r.rs = 0 ∧ r.rv = 0 ∧ r.rb = 0) ∧ r.nm = 0 ∧ (r.cs = 0 ∧ r.cf = 0 ∧ r.cc = 0) ∧ r.lt.length = 0 ∧ r.ln.length = 0) = q := ⟨_, rfl⟩
  have A1 := Lib.hid (K.sameK0 r.kind r.hs r.hf r.hu r.rs r.rv r.rb r.nm r.cs r.cf r.cc d1 d3 r.lt.length d2 r.ln.length d4 w5 _ hqq)
  clear hqq
  have HH := Lib.hid (And.intro m5 (And.intro p5 n5))
  clear m5 p5 n5 t5
  refine Lib.hid ?_
  go_wp2_with (go_at_call 26; refine A1.out.mono ?_; rintro e w6 ⟨rfl, hb6⟩; refine Hid.out ?_)
  obtain ⟨m5, p5, n5⟩ := HH.out
  have b6 := b5.trans (hb6.mono b5.size)
  have m6 := at_below m5 hb6
  have p6 := at_below p5 hb6
  have n6 := at_below n5 hb6
  clear HH m5 p5 n5 A1 hb6 v0 v1 v2 v3 v4 v5 v6 v7 v8 v9 v10 v11 v12
  have u0 := cellsAt m6 0
  have u1 := cellsAt m6 1
  simp only [List.getElem?_toArray, List.getElem?_cons_zero, List.getElem?_cons_succ] at u0 u1
  have v0 := cellsAt n6 0
  have v1 := cellsAt n6 1
  simp only [List.getElem?_toArray, List.getElem?_cons_zero, List.getElem?_cons_succ] at v0 v1
  have y0 := cellsAt p6 0
  have y1 := cellsAt p6 1
  have y2 := cellsAt p6 2
  simp only [List.getElem?_toArray, List.getElem?_cons_zero, List.getElem?_cons_succ] at y0 y1 y2
  have f1 : ¬ (s < 0) := by omega
  have f2 : ¬ (lim < s) := by omega
  have f3 : ¬ (q < 0) := by omega
  have f4 : ¬ (8 * s < q) := by omega
  have A1 := Lib.hid (C3.out w6 b6)
  have HH := Lib.hid (And.intro m6 p6)
  clear m6 p6 n6 C3
  refine Lib.hid ?_
  have f5 : s ≤ lim := by omega
  rcases hlim with ⟨hl1, hl2⟩ | ⟨hl1, hl2⟩
  all_goals (
    (try subst hl2)
    go_wp2_with (go_at_call 25; refine A1.out.mono ?_; rintro e w7 ⟨VA, VB, rfl, oA, oB, hb7⟩; refine Hid.out ?_)
    obtain ⟨m6, p6⟩ := HH.out
    obtain ⟨k1, k2, hVA⟩ := own_slice oA
    subst hVA
    obtain ⟨k3, k4, hVB⟩ := own_slice oB
    subst hVB
    have b7 := b6.trans (hb7.mono b6.size)
    obtain ⟨W7, hW7⟩ : ∃ W, (w7.alloc (.cells #[.int .i64 r.kind, .slice k1 r.lt.length k2, .int .i64 r.hs, .int .i64 r.hf, .int .i64 r.hu, .int .i64 r.rs, .int .i64 r.rv, .int .i64 r.rb, .int .i64 r.nm, .slice k3 r.ln.length k4, .int .i64 r.cs, .int .i64 r.cf, .int .i64 r.cc] 37)).alloc (.cells #[.int .i64 s, .int .i64 q] 64) = W := ⟨_, rfl⟩
    have g7 : Below w7.heap.size w7 W7 := by rw [← hW7]; exact (below_alloc _ _).alloc (by simp) _
    have j7 : W7.heap[w7.heap.size + 1]? = some (.cells #[.int .i64 s, .int .i64 q] 64 (0, 0)) := by rw [← hW7]; exact K.new_at1 _ _ _
    have bW7 := b7.trans (g7.mono b7.size)
    have m7 := at_below (at_below m6 hb7) g7
    have p7 := at_below (at_below p6 hb7) g7
    clear HH m6 p6 oA oB A1 hb7 g7 u0 u1 v0 v1 y0 y1 y2 f1 f2 f3 f4
    have u0 := cellsAt m7 0
    have u1 := cellsAt m7 1
    simp only [List.getElem?_toArray, List.getElem?_cons_zero, List.getElem?_cons_succ] at u0 u1
    have y0 := cellsAt p7 0
    have y1 := cellsAt p7 1
    have y2 := cellsAt p7 2
    simp only [List.getElem?_toArray, List.getElem?_cons_zero, List.getElem?_cons_succ] at y0 y1 y2
    have A1 := Lib.hid (C4.out W7 bW7)
    have HH := Lib.hid (And.intro m7 j7)
    clear m7 p7 j7 C4
    refine Lib.hid ?_
    go_wp2_with (go_at_call 25; refine A1.out.mono ?_; rintro e w8 ⟨VA, VB, rfl, oA, oB, hb8⟩; refine Hid.out ?_)
    obtain ⟨m7, j7⟩ := HH.out
    obtain ⟨k5, k6, hVA⟩ := own_slice oA
    subst hVA
    obtain ⟨k7, k8, hVB⟩ := own_slice oB
    subst hVB
    have b8 := bW7.trans (hb8.mono bW7.size)
    obtain ⟨W8, hW8⟩ : ∃ W, (w8.alloc (.cells #[.int .i64 r4.kind, .slice k5 r4.lt.length k6, .int .i64 r4.hs, .int .i64 r4.hf, .int .i64 r4.hu, .int .i64 r4.rs, .int .i64 r4.rv, .int .i64 r4.rb, .int .i64 r4.nm, .slice k7 r4.ln.length k8, .int .i64 r4.cs, .int .i64 r4.cf, .int .i64 r4.cc] 37)).alloc (.cells #[.int .i64 (s4 : Int), .int .i64 (q4 : Int)] 64) = W := ⟨_, rfl⟩
    have g8 : Below w8.heap.size w8 W8 := by rw [← hW8]; exact (below_alloc _ _).alloc (by simp) _
    have bW8 := b8.trans (g8.mono b8.size)
    have m8 := at_below (at_below m7 hb8) g8
    have j8 := at_below (at_below j7 hb8) g8
    clear HH m7 j7 oA oB A1 hb8 g8 u0 u1 y0 y1 y2 hW7
    have u0 := cellsAt m8 0
    have u1 := cellsAt m8 1
    simp only [List.getElem?_toArray, List.getElem?_cons_zero, List.getElem?_cons_succ] at u0 u1
    have v0 := cellsAt j8 0
    have v1 := cellsAt j8 1
    simp only [List.getElem?_toArray, List.getElem?_cons_zero, List.getElem?_cons_succ] at v0 v1
    refine Lib.hid ?_
    rcases he4 with rfl | ⟨rfl, hz⟩
    all_goals (
      go_wp2
      go_ret
      exact ⟨rfl, bW8⟩))
end Go.Proofs.YteibjmlimcpaoaaDoor.W
