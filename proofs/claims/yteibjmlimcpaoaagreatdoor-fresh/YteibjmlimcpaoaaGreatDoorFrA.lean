/-
  The law Fresh answers true, and leaves alone what lay in memory.
-/
import Derived.Test.YteibjmlimcpaoaaGreatDoorKa
import Derived.Test.YteibjmlimcpaoaaGreatDoorWf
import Derived.Test.YteibjmlimcpaoaaGreatDoorPa
import Derived.Test.YteibjmlimcpaoaaGreatDoorDa
set_option linter.unusedVariables false
set_option linter.unusedSimpArgs false
namespace Go.Proofs.YteibjmlimcpaoaaGreatDoor.W
open Go.RowKit Go.Sort

/-- a task -/
structure Tk where
  P : Pol
  T : Value
  I : Value
  D : List UInt8
  b : Int
def kcells : List Tk → List Value
  | [] => []
  | t :: r => t.T :: t.I :: .int .i64 t.P.text :: strV t.D :: .int .i64 t.b :: kcells r
theorem kcells_at : ∀ (l : List Tk) (k : Nat) (x : Tk), l[k]? = some x → (kcells l)[k * 5]? = some x.T ∧ (kcells l)[k * 5 + 1]? = some x.I ∧ (kcells l)[k * 5 + 2]? = some (.int .i64 x.P.text) ∧ (kcells l)[k * 5 + 3]? = some (strV x.D) ∧ (kcells l)[k * 5 + 4]? = some (.int .i64 x.b)
  | [], k, x, h => by simp at h
  | t :: r, 0, x, h => by
    simp only [List.getElem?_cons_zero, Option.some.injEq] at h
    subst h
    exact ⟨rfl, rfl, rfl, rfl, rfl⟩
  | t :: r, k + 1, x, h => by
    have := kcells_at r k x (by simpa using h)
    have e : (k + 1) * 5 = k * 5 + 5 := by omega
    rw [e]
    simpa [kcells] using this
structure TkOk (w : World) (t : Tk) : Prop where
  p : PolIs t.P t.T t.I w
  d : t.D.length ≤ 9223372036854775807
  b : t.b ≤ 9223372036854775807
theorem pol0 (w : World) : PolIs ⟨[], [], 9⟩ (.slice none 0 0) (.slice none 0 0) w := ⟨⟨none, 0, rfl, fun h => by cases h⟩, ⟨none, 0, rfl, fun h => by cases h⟩, by simp, by simp, by simp⟩

set_option maxRecDepth 100000 in
set_option maxHeartbeats 4000000 in
theorem freshK (ts : List Tk) (V : Value) (w : World) (hn : ts.length ≤ 9223372036854775807) (hV : RowIs w V ts.length (kcells ts)) (hts : ∀ t ∈ ts, TkOk w t) (hg : Gl w) (htab : w.cell? ⟨7, 15, none⟩ = some (.int .u8 4)) (hK : Calls Tryz.prog 25 #[] w fun e w' => e = .returned (.bool true) ∧ Below w.heap.size w w') :
    Calls Tryz.prog 7 #[V] w fun e w' => e = .returned (.bool true) ∧ Below w.heap.size w w' := by
  obtain ⟨ao, cap, rfl, _⟩ := id hV
  have HV := Lib.hid hV
  have HT := Lib.hid hts
  have HG := Lib.hid (fun (x : World) (h : Below w.heap.size w x) => hg.on h)
  have HB := Lib.hid (fun (x : World) (h : Below w.heap.size w x) => (h.cell (p := ⟨7, 15, none⟩) (cell_lt htab)).trans htab)
  have CK := Lib.hid hK
  clear hV hts hg htab hK
  go_enter Tryz.func7, Tryz.ntmps7
  go_wp2_with (go_at_call 25; refine CK.out.mono ?_; rintro e w1 ⟨rfl, hb1⟩; refine Hid.out ?_)
  clear CK
  refine Lib.hid ?_
  go_wp2_with (go_at_call 10; refine (newW w1).mono ?_; rintro e w2 ⟨⟨sp, rfl⟩, hb2⟩; refine Hid.out ?_)
  have b2 := hb1.trans (hb2.mono hb1.size)
  refine Lib.hid ?_
  go_wp2
  go_loopw [5] (fun is wr => ∃ (k : Nat), is = .int .i64 k ∧ k ≤ ts.length ∧ Below w.heap.size w wr) (fun is _ => ts.length - (intOf is).toNat)
  case atStart => exact ⟨0, rfl, Nat.zero_le _, b2⟩
  case round =>
    clear b2 hb1 hb2
    obtain ⟨k, rfl, hk, hbw⟩ := hrel
    by_cases hlt : k < ts.length
    · obtain ⟨_, _, hao, ha⟩ := HV.out.on hbw
      cases hao
      obtain ⟨g, o, rfl, hca⟩ := ha (by omega)
      obtain ⟨x, hx⟩ : ∃ x, ts[k]? = some x := ⟨_, List.getElem?_eq_getElem hlt⟩
      obtain ⟨t0, t1, t2, t3, t4⟩ := kcells_at ts k x hx
      have c0 := hca _ _ t0
      have c1 := hca _ _ t1
      have c2 := hca _ _ t2
      have c3 := hca _ _ t3
      have c4 := hca _ _ t4
      rw [← Nat.add_assoc] at c1 c2 c3 c4
      have ok := HT.out x (List.mem_of_getElem? hx)
      clear ha hca t0 t1 t2 t3 t4 hx
      obtain ⟨P, T, I, D, b⟩ := x
      simp only at c0 c1 c2 c3 c4 ok
      obtain ⟨hp, hD, hb⟩ := ok
      simp only at hp hD hb
      obtain ⟨ta, tc, rfl, _⟩ := id hp.tags
      obtain ⟨ia, ic, rfl, _⟩ := id hp.ids
      obtain ⟨⟨r, ⟨st, rd⟩, er⟩, hr⟩ : ∃ y, inspOf P D b = y := ⟨_, rfl⟩
      have hl := insp_len P D b
      rw [hr] at hl
      simp only at hl
      have CS := Lib.hid (fun (sp : Addr) (x : World) (h : Below w.heap.size w x) => sinspectW sp P (.slice ta P.tags.length tc) (.slice ia P.ids.length ic) D b x hD hb (hp.on h) (HG.out x h) (HB.out x h) r st rd er hr)
      have CI := Lib.hid (fun (x : World) (h : Below w.heap.size w x) => inspectW P (.slice ta P.tags.length tc) (.slice ia P.ids.length ic) D b x hD hb (hp.on h) (HG.out x h) (HB.out x h) r st rd er hr)
      unfold pv strV at CS CI
      unfold strV at c3
      unfold Rep.val at CS CI
      have ik0 : (0 : Int) ≤ (k : Int) := by omega
      have ik1 : (k : Int) < (ts.length : Int) := by omega
      have ln1 : r.lt.length ≤ 1048576 := by omega
      have ln2 : r.ln.length ≤ 1048576 := by omega
      clear hp hD hb hr hl
      obtain ⟨W0, hW0⟩ : ∃ W0, wr.alloc (.cells #[.slice ta P.tags.length tc, .slice ia P.ids.length ic, .int .i64 P.text, .string ⟨D.toArray⟩, .int .i64 b] 77) = W0 := ⟨_, rfl⟩
      have bW0 : Below w.heap.size w W0 := by rw [← hW0]; exact hbw.alloc hbw.size _
      have z0 : W0.heap[wr.heap.size]? = some (.cells #[.slice ta P.tags.length tc, .slice ia P.ids.length ic, .int .i64 P.text, .string ⟨D.toArray⟩, .int .i64 b] 77 (0, 0)) := by rw [← hW0]; exact new_at _ _
      have CN := Lib.hid (newW W0)
      go_wp2_with (go_at_call 10; refine CN.out.mono ?_; rintro e w3 ⟨⟨xp, rfl⟩, hb3⟩; refine Hid.out ?_)
      have b3 := bW0.trans (hb3.mono bW0.size)
      have z3 := at_below z0 hb3
      clear c0 c1 c2 c3 c4 CN hW0 z0 bW0 hb3 ik0 ik1
      have e0 := cellsAt z3 0
      have e1 := cellsAt z3 1
      have e2 := cellsAt z3 2
      have e3 := cellsAt z3 3
      have e4 := cellsAt z3 4
      simp only [List.getElem?_toArray, List.getElem?_cons_zero, List.getElem?_cons_succ] at e0 e1 e2 e3 e4
      have C1 := Lib.hid (CS.out sp w3 b3)
      refine Lib.hid ?_
      go_wp2_with (go_at_call 30; refine C1.out.mono ?_; rintro e w4 ⟨VA, VB, rfl, oA, oB, hb4⟩; refine Hid.out ?_)
      obtain ⟨a1, a2, hVA⟩ := own_slice oA
      subst hVA
      obtain ⟨a3, a4, hVB⟩ := own_slice oB
      subst hVB
      clear e0 e1 e2 e3 e4 C1
      obtain ⟨W4, hW4⟩ : ∃ W, (w4.alloc (.cells #[.int .i64 r.kind, .slice a1 r.lt.length a2, .int .i64 r.hs, .int .i64 r.hf, .int .i64 r.hu, .int .i64 r.rs, .int .i64 r.rv, .int .i64 r.rb, .int .i64 r.nm, .slice a3 r.ln.length a4, .int .i64 r.cs, .int .i64 r.cf, .int .i64 r.cc] 39)).alloc (.cells #[.int .i64 (st : Int), .int .i64 (rd : Int)] 41) = W := ⟨_, rfl⟩
      have g4 : Below w4.heap.size w4 W4 := by rw [← hW4]; exact (below_alloc _ _).alloc (by simp) _
      have p4 : W4.heap[w4.heap.size]? = some (.cells #[.int .i64 r.kind, .slice a1 r.lt.length a2, .int .i64 r.hs, .int .i64 r.hf, .int .i64 r.hu, .int .i64 r.rs, .int .i64 r.rv, .int .i64 r.rb, .int .i64 r.nm, .slice a3 r.ln.length a4, .int .i64 r.cs, .int .i64 r.cf, .int .i64 r.cc] 39 (0, 0)) := by rw [← hW4]; exact at_alloc (new_at _ _)
      have m4 : W4.heap[w4.heap.size + 1]? = some (.cells #[.int .i64 (st : Int), .int .i64 (rd : Int)] 41 (0, 0)) := by rw [← hW4]; exact K.new_at1 _ _ _
      have b4 := b3.trans (hb4.mono b3.size)
      have bW4 := b4.trans (g4.mono b4.size)
      have z4 := at_below (at_below z3 hb4) g4
      have oA4 := own_any oA g4
      have oB4 := own_any oB g4
      clear z3 oA oB hb4 b3 b4
      have e0 := cellsAt z4 0
      have e1 := cellsAt z4 1
      have e2 := cellsAt z4 2
      have e3 := cellsAt z4 3
      have e4 := cellsAt z4 4
      simp only [List.getElem?_toArray, List.getElem?_cons_zero, List.getElem?_cons_succ] at e0 e1 e2 e3 e4
      have C1 := Lib.hid (CS.out xp W4 bW4)
      have HH := Lib.hid (And.intro p4 (And.intro m4 (And.intro oA4 oB4)))
      clear p4 m4 oA4 oB4 g4
      refine Lib.hid ?_
      go_wp2_with (go_at_call 30; refine C1.out.mono ?_; rintro e w5 ⟨VA, VB, rfl, oA, oB, hb5⟩; refine Hid.out ?_)
      obtain ⟨d1, d2, hVA⟩ := own_slice oA
      subst hVA
      obtain ⟨d3, d4, hVB⟩ := own_slice oB
      subst hVB
      clear e0 e1 e2 e3 e4 C1 hW4
      obtain ⟨W5, hW5⟩ : ∃ W, (w5.alloc (.cells #[.int .i64 r.kind, .slice d1 r.lt.length d2, .int .i64 r.hs, .int .i64 r.hf, .int .i64 r.hu, .int .i64 r.rs, .int .i64 r.rv, .int .i64 r.rb, .int .i64 r.nm, .slice d3 r.ln.length d4, .int .i64 r.cs, .int .i64 r.cf, .int .i64 r.cc] 39)).alloc (.cells #[.int .i64 (st : Int), .int .i64 (rd : Int)] 41) = W := ⟨_, rfl⟩
      have g5 : Below w5.heap.size w5 W5 := by rw [← hW5]; exact (below_alloc _ _).alloc (by simp) _
      have p5 : W5.heap[w5.heap.size]? = some (.cells #[.int .i64 r.kind, .slice d1 r.lt.length d2, .int .i64 r.hs, .int .i64 r.hf, .int .i64 r.hu, .int .i64 r.rs, .int .i64 r.rv, .int .i64 r.rb, .int .i64 r.nm, .slice d3 r.ln.length d4, .int .i64 r.cs, .int .i64 r.cf, .int .i64 r.cc] 39 (0, 0)) := by rw [← hW5]; exact at_alloc (new_at _ _)
      have m5 : W5.heap[w5.heap.size + 1]? = some (.cells #[.int .i64 (st : Int), .int .i64 (rd : Int)] 41 (0, 0)) := by rw [← hW5]; exact K.new_at1 _ _ _
      have b5 := bW4.trans (hb5.mono bW4.size)
      have bW5 := b5.trans (g5.mono b5.size)
      have z5 := at_below (at_below z4 hb5) g5
      have oA5 := own_any oA g5
      have oB5 := own_any oB g5
      obtain ⟨p4, m4, oA4, oB4⟩ := HH.out
      have oA4' := own_any (own_any oA4 hb5) g5
      have oB4' := own_any (own_any oB4 hb5) g5
      have p4' := at_below (at_below p4 hb5) g5
      have m4' := at_below (at_below m4 hb5) g5
      clear HH p4 m4 oA4 oB4 z4 oA oB hb5 b5
      have e0 := cellsAt z5 0
      have e1 := cellsAt z5 1
      have e2 := cellsAt z5 2
      have e3 := cellsAt z5 3
      have e4 := cellsAt z5 4
      simp only [List.getElem?_toArray, List.getElem?_cons_zero, List.getElem?_cons_succ] at e0 e1 e2 e3 e4
      have C1 := Lib.hid (CI.out W5 bW5)
      have HH := Lib.hid (And.intro p4' (And.intro m4' (And.intro oA4' (And.intro oB4' (And.intro p5 (And.intro m5 (And.intro oA5 oB5)))))))
      clear p4' m4' oA4' oB4' p5 m5 oA5 oB5 g5 z5
      refine Lib.hid ?_
      go_wp2_with (go_at_call 12; refine C1.out.mono ?_; rintro e w6 ⟨VA, VB, rfl, oA, oB, hb6⟩; refine Hid.out ?_)
      obtain ⟨f1, f2, hVA⟩ := own_slice oA
      subst hVA
      obtain ⟨f3, f4, hVB⟩ := own_slice oB
      subst hVB
      clear e0 e1 e2 e3 e4 C1 hW5 CS CI
      obtain ⟨W6, hW6⟩ : ∃ W, (w6.alloc (.cells #[.int .i64 r.kind, .slice f1 r.lt.length f2, .int .i64 r.hs, .int .i64 r.hf, .int .i64 r.hu, .int .i64 r.rs, .int .i64 r.rv, .int .i64 r.rb, .int .i64 r.nm, .slice f3 r.ln.length f4, .int .i64 r.cs, .int .i64 r.cf, .int .i64 r.cc] 39)).alloc (.cells #[.int .i64 (st : Int), .int .i64 (rd : Int)] 41) = W := ⟨_, rfl⟩
      have g6 : Below w6.heap.size w6 W6 := by rw [← hW6]; exact (below_alloc _ _).alloc (by simp) _
      have p6 : W6.heap[w6.heap.size]? = some (.cells #[.int .i64 r.kind, .slice f1 r.lt.length f2, .int .i64 r.hs, .int .i64 r.hf, .int .i64 r.hu, .int .i64 r.rs, .int .i64 r.rv, .int .i64 r.rb, .int .i64 r.nm, .slice f3 r.ln.length f4, .int .i64 r.cs, .int .i64 r.cf, .int .i64 r.cc] 39 (0, 0)) := by rw [← hW6]; exact at_alloc (new_at _ _)
      have m6 : W6.heap[w6.heap.size + 1]? = some (.cells #[.int .i64 (st : Int), .int .i64 (rd : Int)] 41 (0, 0)) := by rw [← hW6]; exact K.new_at1 _ _ _
      have b6 := bW5.trans (hb6.mono bW5.size)
      have bW6 := b6.trans (g6.mono b6.size)
      have oA6 := own_any oA g6
      have oB6 := own_any oB g6
      obtain ⟨p4, m4, oA4, oB4, p5, m5, oA5, oB5⟩ := HH.out
      have oA4' := own_any (own_any oA4 hb6) g6
      have oB4' := own_any (own_any oB4 hb6) g6
      have oA5' := own_any (own_any oA5 hb6) g6
      have oB5' := own_any (own_any oB5 hb6) g6
      have p4' := at_below (at_below p4 hb6) g6
      have m4' := at_below (at_below m4 hb6) g6
      have p5' := at_below (at_below p5 hb6) g6
      have m5' := at_below (at_below m5 hb6) g6
      clear HH p4 m4 oA4 oB4 p5 m5 oA5 oB5 oA oB hb6 b6 g6
      have CA := Lib.hid (K.sameK r.kind r.hs r.hf r.hu r.rs r.rv r.rb r.nm r.cs r.cf r.cc (.slice a1 r.lt.length a2) (.slice a3 r.ln.length a4) (.slice d1 r.lt.length d2) (.slice d3 r.ln.length d4) r.lt r.ln W6 ln1 ln2 (rowOfOwn oA4') (rowOfOwn oB4') (rowOfOwn oA5') (rowOfOwn oB5'))
      have CB := Lib.hid (fun (x : World) (h : Below W6.heap.size W6 x) => K.sameK r.kind r.hs r.hf r.hu r.rs r.rv r.rb r.nm r.cs r.cf r.cc (.slice a1 r.lt.length a2) (.slice a3 r.ln.length a4) (.slice f1 r.lt.length f2) (.slice f3 r.ln.length f4) r.lt r.ln x ln1 ln2 (rowOfOwn (own_any oA4' h)) (rowOfOwn (own_any oB4' h)) (rowOfOwn (own_any oA6 h)) (rowOfOwn (own_any oB6 h)))
      have x0 := cellsAt p4' 0
      have x1 := cellsAt p4' 1
      have x2 := cellsAt p4' 2
      have x3 := cellsAt p4' 3
      have x4 := cellsAt p4' 4
      have x5 := cellsAt p4' 5
      have x6 := cellsAt p4' 6
      have x7 := cellsAt p4' 7
      have x8 := cellsAt p4' 8
      have x9 := cellsAt p4' 9
      have x10 := cellsAt p4' 10
      have x11 := cellsAt p4' 11
      have x12 := cellsAt p4' 12
      simp only [List.getElem?_toArray, List.getElem?_cons_zero, List.getElem?_cons_succ] at x0 x1 x2 x3 x4 x5 x6 x7 x8 x9 x10 x11 x12
      have y0 := cellsAt p5' 0
      have y1 := cellsAt p5' 1
      have y2 := cellsAt p5' 2
      have y3 := cellsAt p5' 3
      have y4 := cellsAt p5' 4
      have y5 := cellsAt p5' 5
      have y6 := cellsAt p5' 6
      have y7 := cellsAt p5' 7
      have y8 := cellsAt p5' 8
      have y9 := cellsAt p5' 9
      have y10 := cellsAt p5' 10
      have y11 := cellsAt p5' 11
      have y12 := cellsAt p5' 12
      simp only [List.getElem?_toArray, List.getElem?_cons_zero, List.getElem?_cons_succ] at y0 y1 y2 y3 y4 y5 y6 y7 y8 y9 y10 y11 y12
      have HH := Lib.hid (And.intro p4' (And.intro m4' (And.intro p5' (And.intro m5' (And.intro p6 m6)))))
      clear p4' m4' p5' m5' p6 m6 oA4' oB4' oA5' oB5' oA6 oB6
      refine Lib.hid ?_
      go_wp2_with (go_at_call 28; refine CA.out.mono ?_; rintro e w7 ⟨rfl, hb7⟩; refine Hid.out ?_)
      obtain ⟨p4, m4, p5, m5, p6, m6⟩ := HH.out
      have p4' := at_below p4 hb7
      have p6' := at_below p6 hb7
      have C1 := Lib.hid (CB.out w7 hb7)
      have b7 := bW6.trans (hb7.mono bW6.size)
      have HM := Lib.hid (And.intro (at_below m4 hb7) (And.intro (at_below m5 hb7) (at_below m6 hb7)))
      clear x0 y0 x1 y1 x2 y2 x3 y3 x4 y4 x5 y5 x6 y6 x7 y7 x8 y8 x9 y9 x10 y10 x11 y11 x12 y12 CA CB HH p4 m4 p5 m5 p6 m6 hW6
      have x0 := cellsAt p4' 0
      have x1 := cellsAt p4' 1
      have x2 := cellsAt p4' 2
      have x3 := cellsAt p4' 3
      have x4 := cellsAt p4' 4
      have x5 := cellsAt p4' 5
      have x6 := cellsAt p4' 6
      have x7 := cellsAt p4' 7
      have x8 := cellsAt p4' 8
      have x9 := cellsAt p4' 9
      have x10 := cellsAt p4' 10
      have x11 := cellsAt p4' 11
      have x12 := cellsAt p4' 12
      simp only [List.getElem?_toArray, List.getElem?_cons_zero, List.getElem?_cons_succ] at x0 x1 x2 x3 x4 x5 x6 x7 x8 x9 x10 x11 x12
      have y0 := cellsAt p6' 0
      have y1 := cellsAt p6' 1
      have y2 := cellsAt p6' 2
      have y3 := cellsAt p6' 3
      have y4 := cellsAt p6' 4
      have y5 := cellsAt p6' 5
      have y6 := cellsAt p6' 6
      have y7 := cellsAt p6' 7
      have y8 := cellsAt p6' 8
      have y9 := cellsAt p6' 9
      have y10 := cellsAt p6' 10
      have y11 := cellsAt p6' 11
      have y12 := cellsAt p6' 12
      simp only [List.getElem?_toArray, List.getElem?_cons_zero, List.getElem?_cons_succ] at y0 y1 y2 y3 y4 y5 y6 y7 y8 y9 y10 y11 y12
      refine Lib.hid ?_
      go_wp2_with (go_at_call 28; refine C1.out.mono ?_; rintro e w8 ⟨rfl, hb8⟩; refine Hid.out ?_)
      obtain ⟨m4, m5, m6⟩ := HM.out
      have m4' := at_below m4 hb8
      have m5' := at_below m5 hb8
      have m6' := at_below m6 hb8
      have b8 := b7.trans (hb8.mono b7.size)
      clear x0 y0 x1 y1 x2 y2 x3 y3 x4 y4 x5 y5 x6 y6 x7 y7 x8 y8 x9 y9 x10 y10 x11 y11 x12 y12 p4' p6' m4 m5 m6 HM C1 hb7 hb8
      have x0 := cellsAt m4' 0
      have x1 := cellsAt m4' 1
      simp only [List.getElem?_toArray, List.getElem?_cons_zero, List.getElem?_cons_succ] at x0 x1
      have y0 := cellsAt m5' 0
      have y1 := cellsAt m5' 1
      simp only [List.getElem?_toArray, List.getElem?_cons_zero, List.getElem?_cons_succ] at y0 y1
      have u0 := cellsAt m6' 0
      have u1 := cellsAt m6' 1
      simp only [List.getElem?_toArray, List.getElem?_cons_zero, List.getElem?_cons_succ] at u0 u1
      refine Lib.hid ?_
      go_wp2
      exact ⟨⟨k + 1, by go_num, by omega, b8⟩, by simp [intOf]; omega⟩
    · have hge : ¬ ((k : Int) < (ts.length : Int)) := by omega
      have CS := Lib.hid (fun (x : World) (h : Below w.heap.size w x) => sinspectW sp ⟨[], [], 9⟩ (.slice none 0 0) (.slice none 0 0) smallL 9000 x (by rw [small_is]; omega) (by omega) (pol0 x) (HG.out x h) (HB.out x h) _ _ _ _ small_free)
      unfold pv strV at CS
      simp only [Rep.val, smallR, List.length_cons, List.length_nil, Nat.zero_add, Nat.reduceAdd] at CS
      have C0 := Lib.hid (K.smallK wr)
      generalize smallL = SL at *
      go_wp2_with (go_at_call 31; refine C0.out.mono ?_; rintro e w3 ⟨rfl, hb3⟩; refine Hid.out ?_)
      have b3 := hbw.trans (hb3.mono hbw.size)
      have C1 := Lib.hid (CS.out w3 b3)
      clear C0 CS
      refine Lib.hid ?_
      go_wp2_with (go_at_call 30; refine C1.out.mono ?_; rintro e w4 ⟨VA, VB, rfl, oA, oB, hb4⟩; refine Hid.out ?_)
      obtain ⟨a1, a2, hVA⟩ := own_slice oA
      subst hVA
      obtain ⟨a3, a4, hVB⟩ := own_slice oB
      subst hVB
      have b4 := b3.trans (hb4.mono b3.size)
      obtain ⟨W4, hW4⟩ : ∃ W, (w4.alloc (.cells #[.int .i64 1, .slice a1 1 a2, .int .i64 8, .int .i64 0, .int .i64 0, .int .i64 8, .int .i64 0, .int .i64 0, .int .i64 0, .slice a3 2 a4, .int .i64 8, .int .i64 0, .int .i64 0] 39)).alloc (.cells #[.int .i64 52, .int .i64 52] 41) = W := ⟨_, rfl⟩
      have g4 : Below w4.heap.size w4 W4 := by rw [← hW4]; exact (below_alloc _ _).alloc (by simp) _
      have p4 : W4.heap[w4.heap.size]? = some (.cells #[.int .i64 1, .slice a1 1 a2, .int .i64 8, .int .i64 0, .int .i64 0, .int .i64 8, .int .i64 0, .int .i64 0, .int .i64 0, .slice a3 2 a4, .int .i64 8, .int .i64 0, .int .i64 0] 39 (0, 0)) := by rw [← hW4]; exact at_alloc (new_at _ _)
      have bW4 := b4.trans (g4.mono b4.size)
      obtain ⟨_, _, hao, ha⟩ := rowOfOwn (own_any oB g4)
      cases hao
      obtain ⟨g, o, rfl, hca⟩ := ha (by decide)
      have c6 := hca 6 (.string ⟨#[97, 98]⟩) rfl
      have c13 := hca 13 (.string ⟨#[99, 100]⟩) rfl
      have c13' : W4.cell? ⟨g, o + 7 + 6, none⟩ = some (.string ⟨#[99, 100]⟩) := c13
      have e9 := cellsAt p4 9
      simp only [List.getElem?_toArray, List.getElem?_cons_zero, List.getElem?_cons_succ] at e9
      clear hca ha oA oB p4 hb3 hb4 g4 b3 b4 C1
      refine Lib.hid ?_
      go_wp2
      go_ret
      exact ⟨rfl, bW4⟩
end Go.Proofs.YteibjmlimcpaoaaGreatDoor.W
