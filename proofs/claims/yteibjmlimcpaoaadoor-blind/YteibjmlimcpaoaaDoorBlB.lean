/-
  The law Blind answers true, and leaves alone what lay in memory.
-/
import Derived.Test.YteibjmlimcpaoaaDoorBlA
import Derived.Test.YteibjmlimcpaoaaDoorKpC
import Derived.Test.YteibjmlimcpaoaaDoorSa
set_option linter.unusedVariables false
set_option linter.unusedSimpArgs false
namespace Go.Proofs.YteibjmlimcpaoaaDoor.W
open Go.RowKit Go.Sort

set_option maxRecDepth 100000 in
set_option maxHeartbeats 2000000 in
theorem blind_bad (P : Pol) (T I O : Value) (D : List UInt8) (b : Int) (w : World) (hD : D.length ≤ 9223372036854775807) (hp : PolIs P T I w) (hO : ∃ ao n c, O = .slice ao n c) (hg : Gl w) (htab : w.cell? ⟨7, 15, none⟩ = some (.int .u8 4)) (hK : Known) (er : Int) (he : er = 2 ∨ er = 3) (hr : pubOf P D = ([], er)) :
    Calls Tryd.prog 7 #[pv T I P.text, strV D, O, .int .i64 b] w fun e w' => e = .returned (.bool true) ∧ Below w.heap.size w w' := by
  obtain ⟨oao, on_, oc, rfl⟩ := hO
  have hs1 := hp.tags
  have hs2 := hp.ids
  obtain ⟨ta, tc, hTe, _⟩ := hs1
  obtain ⟨ia, ic, hIe, _⟩ := hs2
  subst hTe hIe
  obtain ⟨W0, hW0⟩ : ∃ W, w.alloc (.cells #[.slice ta P.tags.length tc, .slice ia P.ids.length ic, .int .i64 P.text] 58) = W := ⟨_, rfl⟩
  have bW0 : Below w.heap.size w W0 := by rw [← hW0]; exact below_alloc _ _
  have p0 : W0.heap[w.heap.size]? = some (.cells #[.slice ta P.tags.length tc, .slice ia P.ids.length ic, .int .i64 P.text] 58 (0, 0)) := by rw [← hW0]; exact new_at _ _
  have HG := Lib.hid (fun (x : World) (h : Below w.heap.size w x) => hg.on h)
  have HB := Lib.hid (fun (x : World) (h : Below w.heap.size w x) => (h.cell (p := ⟨7, 15, none⟩) (cell_lt htab)).trans htab)
  have CK := Lib.hid (hK W0 (HG.out _ bW0) (HB.out _ bW0))
  have CP := Lib.hid (fun (E : List UInt8) (hE : E.length ≤ 9223372036854775807) (x : World) (h : Below w.heap.size w x) (L : List Bool) (er : Int) (hr : pubOf P E = (L, er)) => publicW P (.slice ta P.tags.length tc) (.slice ia P.ids.length ic) E x hE (hp.on h) (HG.out x h) (HB.out x h) L er hr)
  have CI := Lib.hid (fun (E : List UInt8) (hE : E.length ≤ 9223372036854775807) (bb : Int) (hbb : bb ≤ 9223372036854775807) (x : World) (h : Below w.heap.size w x) (r : Rep) (st rd : Nat) (er : Int) (hr : inspOf P E bb = (r, (st, rd), er)) => inspectW P (.slice ta P.tags.length tc) (.slice ia P.ids.length ic) E bb x hE hbb (hp.on h) (HG.out x h) (HB.out x h) r st rd er hr)
  unfold pv strV at CP CI ⊢
  unfold Rep.val at CI
  have CJ := Lib.hid (fun (x : World) (h : Below w.heap.size w x) => CP.out D hD x h _ _ hr)
  clear CI CP hr hg htab hK hp
  have hne : ¬ er = 0 := by omega
  go_enter Tryd.func7, Tryd.ntmps7
  go_wp2_with (go_at_call 23; refine CK.out.mono ?_; rintro e w1 ⟨rfl, hb1⟩; refine Hid.out ?_)
  have b1 := bW0.trans (hb1.mono bW0.size)
  have p1 := at_below p0 hb1
  have y0 := cellsAt p1 0
  have y1 := cellsAt p1 1
  have y2 := cellsAt p1 2
  simp only [List.getElem?_toArray, List.getElem?_cons_zero, List.getElem?_cons_succ] at y0 y1 y2
  have A1 := Lib.hid (CJ.out w1 b1)
  clear CK hW0 CJ
  refine Lib.hid ?_
  go_wp2_with (go_at_call 24; refine A1.out.mono ?_; rintro e w2 ⟨V, rfl, hV, _, hb2⟩; obtain ⟨rfl, _⟩ := hV hne; refine Hid.out ?_)
  have b2 := b1.trans (hb2.mono b1.size)
  clear y0 y1 y2 A1
  refine Lib.hid ?_
  rcases he with rfl | rfl
  all_goals (
    go_wp2
    go_ret
    exact ⟨rfl, b2⟩)

set_option maxRecDepth 100000 in
set_option maxHeartbeats 4000000 in
theorem blind_ok (P : Pol) (T I : Value) (D : List UInt8) (os : List Int) (O : Value) (b : Int) (w : World) (hD : D.length ≤ 2000) (hb0 : -9223372036854775808 ≤ b) (hb : b ≤ 9223372036854775807) (hp : PolIs P T I w) (hO : RowIs w O os.length (icells os)) (hos : os.length ≤ 9223372036854775807) (hg : Gl w) (htab : w.cell? ⟨7, 15, none⟩ = some (.int .u8 4)) (hK : Known) (L : List Bool) (hL : L.length = D.length) (hpub : pubOf P D = (L, 0))
    (hbl : ∀ E : List UInt8, E.length = D.length → (∀ j : Nat, L[j]? = some true → E[j]? = D[j]?) → pubOf P E = (L, 0) ∧ ∀ x, inspOf P E x = inspOf P D x) (r : Rep) (S Q : Nat) (h1 : inspOf P D (64 * (D.length : Int) + 4096) = (r, (S, Q), 0)) :
    Calls Tryd.prog 7 #[pv T I P.text, strV D, O, .int .i64 b] w fun e w' => e = .returned (.bool true) ∧ Below w.heap.size w w' := by
  obtain ⟨oao, ocap, rfl, _⟩ := id hO
  have hs1 := hp.tags
  have hs2 := hp.ids
  obtain ⟨ta, tc, hTe, _⟩ := hs1
  obtain ⟨ia, ic, hIe, _⟩ := hs2
  subst hTe hIe
  obtain ⟨W0, hW0⟩ : ∃ W, w.alloc (.cells #[.slice ta P.tags.length tc, .slice ia P.ids.length ic, .int .i64 P.text] 58) = W := ⟨_, rfl⟩
  have bW0 : Below w.heap.size w W0 := by rw [← hW0]; exact below_alloc _ _
  have p0 : W0.heap[w.heap.size]? = some (.cells #[.slice ta P.tags.length tc, .slice ia P.ids.length ic, .int .i64 P.text] 58 (0, 0)) := by rw [← hW0]; exact new_at _ _
  have HG := Lib.hid (fun (x : World) (h : Below w.heap.size w x) => hg.on h)
  have HB := Lib.hid (fun (x : World) (h : Below w.heap.size w x) => (h.cell (p := ⟨7, 15, none⟩) (cell_lt htab)).trans htab)
  have CK := Lib.hid (hK W0 (HG.out _ bW0) (HB.out _ bW0))
  have CP := Lib.hid (fun (E : List UInt8) (hE : E.length ≤ 9223372036854775807) (x : World) (h : Below w.heap.size w x) (L : List Bool) (er : Int) (hr : pubOf P E = (L, er)) => publicW P (.slice ta P.tags.length tc) (.slice ia P.ids.length ic) E x hE (hp.on h) (HG.out x h) (HB.out x h) L er hr)
  have CI := Lib.hid (fun (E : List UInt8) (hE : E.length ≤ 9223372036854775807) (bb : Int) (hbb : bb ≤ 9223372036854775807) (x : World) (h : Below w.heap.size w x) (r : Rep) (st rd : Nat) (er : Int) (hr : inspOf P E bb = (r, (st, rd), er)) => inspectW P (.slice ta P.tags.length tc) (.slice ia P.ids.length ic) E bb x hE hbb (hp.on h) (HG.out x h) (HB.out x h) r st rd er hr)
  unfold pv strV at CP CI ⊢
  unfold Rep.val at CI
  have HO := Lib.hid hO
  have HBL := Lib.hid hbl
  have HL := Lib.hid hL
  have H1 := Lib.hid h1
  have CJ := Lib.hid (fun (x : World) (h : Below w.heap.size w x) => CP.out D (by omega) x h _ _ hpub)
  simp only [hL] at CJ
  have hDi : (D.length : Int) ≤ 2000 := by omega
  clear hpub hg htab hK hp hO hbl hL h1
  go_enter Tryd.func7, Tryd.ntmps7
  go_wp2_with (go_at_call 23; refine CK.out.mono ?_; rintro e w1 ⟨rfl, hb1⟩; refine Hid.out ?_)
  have b1 := bW0.trans (hb1.mono bW0.size)
  have p1 := at_below p0 hb1
  have y0 := cellsAt p1 0
  have y1 := cellsAt p1 1
  have y2 := cellsAt p1 2
  simp only [List.getElem?_toArray, List.getElem?_cons_zero, List.getElem?_cons_succ] at y0 y1 y2
  have A1 := Lib.hid (CJ.out w1 b1)
  clear CK hW0 CJ
  refine Lib.hid ?_
  go_wp2_with (go_at_call 24; refine A1.out.mono ?_; rintro e w2 ⟨V, rfl, _, hV, hb2⟩; obtain ⟨gl, rfl, hgl, hB⟩ := hV (by first | rfl | trivial); refine Hid.out ?_)
  have b2 := b1.trans (hb2.mono b1.size)
  have PP := Lib.hid (at_below p1 hb2)
  have BB := Lib.hid hB
  obtain ⟨cap, w3, hcv, bw3, hin⟩ := conv_in w2 D
  have HIN := Lib.hid hin
  have BW3 := Lib.hid bw3
  clear y0 y1 y2 A1 p1 p0 hb1 hb2 hB hV hin
  refine Lib.hid ?_
  go_wp2
  go_loopw [13, 14] (fun ks is wr => ∃ (i k : Nat) (E : List UInt8), is = .int .i64 (i : Int) ∧ ks = .int .i64 (k : Int) ∧ k ≤ i ∧ i ≤ D.length ∧ E.length = D.length ∧ Hid (∀ j : Nat, L[j]? = some true → E[j]? = D[j]?) ∧ Hid (BytesIn w2.heap.size E wr) ∧ Below w2.heap.size w2 wr) (fun _ is _ => D.length - (intOf is).toNat)
  case atStart => exact ⟨0, 0, D, rfl, rfl, Nat.le_refl _, Nat.zero_le _, rfl, Lib.hid (fun j _ => rfl), HIN, bw3⟩
  case round =>
    clear hcv HIN BW3 bw3
    obtain ⟨i, k, E, rfl, rfl, hki, hi, hEl, HE, HI, hbr⟩ := hrel
    by_cases hi1 : i < D.length
    · obtain ⟨q, hq⟩ : ∃ q, L[i]? = some q := ⟨_, List.getElem?_eq_getElem (by have := HL.out; omega)⟩
      have c0 : wr.cell? ⟨gl, i, none⟩ = some (.bool q) := by
        have := BB.out
        unfold BoolsAt at this
        rw [cellsAt (at_below this hbr)]
        simp [hq]
      have ik0 : (0 : Int) ≤ (i : Int) := by omega
      have ik1 : (i : Int) < (D.length : Int) := by omega
      have HQ := Lib.hid hq
      clear hq
      cases q with
      | true =>
        go_wp2
        exact ⟨⟨i + 1, k, E, by go_num, rfl, by omega, by omega, hEl, HE, HI, hbr⟩, by simp [intOf]; omega⟩
      | false =>
        by_cases ho : 0 < os.length
        · obtain ⟨_, _, hao, ha⟩ := (HO.out.on b2).on hbr
          cases hao
          obtain ⟨g, oo, rfl, hca⟩ := ha ho
          have hm : k % os.length < os.length := Nat.mod_lt _ ho
          obtain ⟨x, hx⟩ : ∃ x, os[k % os.length]? = some x := ⟨_, List.getElem?_eq_getElem hm⟩
          have c1 := hca (k % os.length) (.int .i64 x) (by unfold icells; rw [List.getElem?_map, hx]; rfl)
          have hrem : ((k : Int)).tmod (os.length : Int) = ((k % os.length : Nat) : Int) := by
            rw [Int.tmod_eq_emod_of_nonneg (by omega)]
            omega
          obtain ⟨e0, he0⟩ : ∃ e0, E[i]? = some e0 := ⟨_, List.getElem?_eq_getElem (by omega)⟩
          have c2 := HI.out.cell he0
          have f2 := HI.out.free (j := i) (by omega)
          have on0 : (0 : Int) < (os.length : Int) := by omega
          have on1 : ¬ ((os.length : Int) = 0) := by omega
          have im0 : (0 : Int) ≤ ((k % os.length : Nat) : Int) := by omega
          have im1 : ((k % os.length : Nat) : Int) < (os.length : Int) := by omega
          clear ha hca hx he0
          have HM := Lib.hid HQ
          go_wp2
          obtain ⟨a, haa⟩ : ∃ a : UInt8, ((a.toNat : Nat) : Int) = wrap64 (x + (k : Int)) % 256 := by
            refine ⟨UInt8.ofNat (wrap64 (x + (k : Int)) % 256).toNat, ?_⟩
            rw [UInt8.toNat_ofNat']
            omega
          rw [← haa]
          exact ⟨⟨i + 1, k + 1, E.set i a, by go_num, by go_num, by omega, by omega, by simpa using hEl, Lib.hid (fun j hj => by
            rw [List.getElem?_set]
            by_cases e : i = j
            · subst e
              have := HQ.out
              rw [this] at hj
              cases hj
            · rw [if_neg e]
              exact HE.out j hj), Lib.hid (HI.out.set (by omega) a), hbr.setCell (Nat.le_refl _) _⟩, by simp [intOf]; omega⟩
        · have on0 : ¬ ((0 : Int) < (os.length : Int)) := by omega
          go_wp2
          exact ⟨⟨i + 1, k, E, by go_num, rfl, by omega, by omega, hEl, HE, HI, hbr⟩, by simp [intOf]; omega⟩
    · have hge : ¬ ((i : Int) < (D.length : Int)) := by omega
      obtain ⟨hpe, hie⟩ := HBL.out E hEl HE.out
      have hcv2 := conv_out wr w2.heap.size E cap HI.out
      rw [hEl] at hcv2
      have br := b2.trans (hbr.mono b2.size)
      have A2 := Lib.hid (CP.out E (by omega) wr br _ _ hpe)
      have hLl := HL.out
      simp only [hLl] at A2
      have pr := at_below PP.out hbr
      have y0 := cellsAt pr 0
      have y1 := cellsAt pr 1
      have y2 := cellsAt pr 2
      simp only [List.getElem?_toArray, List.getElem?_cons_zero, List.getElem?_cons_succ] at y0 y1 y2
      have HIE := Lib.hid hie
      clear hpe hie CP HBL HE HI hLl
      go_wp2_with (go_at_call 24; refine A2.out.mono ?_; rintro e w5 ⟨V, rfl, _, hV, hb5⟩; obtain ⟨g2, rfl, hg2, hB⟩ := hV (by first | rfl | trivial); refine Hid.out ?_)
      have b5 := br.trans (hb5.mono br.size)
      have P5 := Lib.hid (at_below pr hb5)
      have B5 := Lib.hid hB
      have BBo := BB.out
      unfold BoolsAt at BBo
      have B2 := Lib.hid (at_below (at_below BBo hbr) hb5)
      clear y0 y1 y2 A2 pr hb5 hB hV hcv2 hge hbr hi BB PP BBo
      refine Lib.hid ?_
      go_wp2
      go_loopw [18] (fun is wx => ∃ (i : Nat), is = .int .i64 (i : Int) ∧ i ≤ D.length ∧ Below w5.heap.size w5 wx) (fun is _ => D.length - (intOf is).toNat)
      case atStart => exact ⟨0, rfl, Nat.zero_le _, Below.refl _ _⟩
      case round =>
        obtain ⟨i2, rfl, hi, hbx⟩ := hrel
        by_cases hi2 : i2 < D.length
        · obtain ⟨q, hq⟩ : ∃ q, L[i2]? = some q := ⟨_, List.getElem?_eq_getElem (by have := HL.out; omega)⟩
          have c0 : wr.cell? ⟨gl, i2, none⟩ = some (.bool q) := by
            rw [cellsAt (at_below B2.out hbx)]
            simp [hq]
          have c1 : wr.cell? ⟨g2, i2, none⟩ = some (.bool q) := by
            have := B5.out
            unfold BoolsAt at this
            rw [cellsAt (at_below this hbx)]
            simp [hq]
          have ik0 : (0 : Int) ≤ (i2 : Int) := by omega
          have ik1 : (i2 : Int) < (D.length : Int) := by omega
          clear hq
          go_wp2
          go_quiet (fail)
          go_wp2
          exact ⟨⟨i2 + 1, by go_num, by omega, K.below_drewN' hbx nq⟩, by simp [intOf]; omega⟩
        · have hge : ¬ ((i2 : Int) < (D.length : Int)) := by omega
          have bx := b5.trans (hbx.mono b5.size)
          have A3 := Lib.hid (pickN b (3 * (D.length : Int) + 600) wr hb0 hb (by omega) (by omega))
          have wl1 : IntKind.i64.wrap (3 * (D.length : Int)) = 3 * (D.length : Int) := wrapB (by omega) (by omega)
          have wl2 : IntKind.i64.wrap (3 * (D.length : Int) + 600) = 3 * (D.length : Int) + 600 := wrapB (by omega) (by omega)
          have px := at_below P5.out hbx
          have y0 := cellsAt px 0
          have y1 := cellsAt px 1
          have y2 := cellsAt px 2
          simp only [List.getElem?_toArray, List.getElem?_cons_zero, List.getElem?_cons_succ] at y0 y1 y2
          go_wp2_with (go_at_call 11; refine A3.out.mono ?_; rintro e w6 ⟨m, hm0, hm1, rfl, hw6⟩; have hw6 := hw6.symm; subst hw6; refine Hid.out ?_)
          obtain ⟨⟨r1, ⟨s1, q1⟩, e1⟩, hr1⟩ : ∃ y, inspOf P D m = y := ⟨_, rfl⟩
          have hr2 : inspOf P E m = (r1, (s1, q1), e1) := (HIE.out m).trans hr1
          have hl1 := insp_len P D m
          rw [hr1] at hl1
          simp only at hl1
          have C1 := Lib.hid (CI.out D (by omega) m (by omega) wr bx _ _ _ _ hr1)
          have C2 := Lib.hid (fun (x : World) (h : Below w.heap.size w x) => CI.out E (by omega) m (by omega) x h _ _ _ _ hr2)
          clear A3 wl1 wl2 hr1 hr2 hge
          refine Lib.hid ?_
          go_wp2_with (go_at_call 25; refine C1.out.mono ?_; rintro e w7 ⟨VA, VB, rfl, oA, oB, hb7⟩; refine Hid.out ?_)
          obtain ⟨a1, a2, hVA⟩ := own_slice oA
          subst hVA
          obtain ⟨a3, a4, hVB⟩ := own_slice oB
          subst hVB
          have b7 := bx.trans (hb7.mono bx.size)
          obtain ⟨W7, hW7⟩ : ∃ W, (w7.alloc (.cells #[.int .i64 r1.kind, .slice a1 r1.lt.length a2, .int .i64 r1.hs, .int .i64 r1.hf, .int .i64 r1.hu, .int .i64 r1.rs, .int .i64 r1.rv, .int .i64 r1.rb, .int .i64 r1.nm, .slice a3 r1.ln.length a4, .int .i64 r1.cs, .int .i64 r1.cf, .int .i64 r1.cc] 37)).alloc (.cells #[.int .i64 (s1 : Int), .int .i64 (q1 : Int)] 64) = W := ⟨_, rfl⟩
          have g7 : Below w7.heap.size w7 W7 := by rw [← hW7]; exact (below_alloc _ _).alloc (by simp) _
          have t7 : W7.heap[w7.heap.size]? = some (.cells #[.int .i64 r1.kind, .slice a1 r1.lt.length a2, .int .i64 r1.hs, .int .i64 r1.hf, .int .i64 r1.hu, .int .i64 r1.rs, .int .i64 r1.rv, .int .i64 r1.rb, .int .i64 r1.nm, .slice a3 r1.ln.length a4, .int .i64 r1.cs, .int .i64 r1.cf, .int .i64 r1.cc] 37 (0, 0)) := by rw [← hW7]; exact at_alloc (new_at _ _)
          have m7 : W7.heap[w7.heap.size + 1]? = some (.cells #[.int .i64 (s1 : Int), .int .i64 (q1 : Int)] 64 (0, 0)) := by rw [← hW7]; exact K.new_at1 _ _ _
          have bW7 := b7.trans (g7.mono b7.size)
          have p7 := at_below (at_below px hb7) g7
          have hz1 : w.heap.size < w7.heap.size := Nat.lt_of_lt_of_le (at_lt px) hb7.size
          have hz2 : w7.heap.size + 1 < W7.heap.size := at_lt m7
          have oA7 := own_any oA g7
          have oB7 := own_any oB g7
          clear y0 y1 y2 C1 oA oB px hb7 g7
          have y0 := cellsAt p7 0
          have y1 := cellsAt p7 1
          have y2 := cellsAt p7 2
          simp only [List.getElem?_toArray, List.getElem?_cons_zero, List.getElem?_cons_succ] at y0 y1 y2
          have A1 := Lib.hid (C2.out W7 bW7)
          have HH := Lib.hid (And.intro t7 (And.intro m7 (And.intro p7 (And.intro oA7 oB7))))
          clear t7 m7 p7 oA7 oB7 C2
          refine Lib.hid ?_
          go_wp2_with (go_at_call 25; refine A1.out.mono ?_; rintro e w8 ⟨VA, VB, rfl, oA, oB, hb8⟩; refine Hid.out ?_)
          obtain ⟨t7, m7, p7, oA7, oB7⟩ := HH.out
          obtain ⟨d1, d2, hVA⟩ := own_slice oA
          subst hVA
          obtain ⟨d3, d4, hVB⟩ := own_slice oB
          subst hVB
          have b8 := bW7.trans (hb8.mono bW7.size)
          obtain ⟨W8, hW8⟩ : ∃ W, (w8.alloc (.cells #[.int .i64 r1.kind, .slice d1 r1.lt.length d2, .int .i64 r1.hs, .int .i64 r1.hf, .int .i64 r1.hu, .int .i64 r1.rs, .int .i64 r1.rv, .int .i64 r1.rb, .int .i64 r1.nm, .slice d3 r1.ln.length d4, .int .i64 r1.cs, .int .i64 r1.cf, .int .i64 r1.cc] 37)).alloc (.cells #[.int .i64 (s1 : Int), .int .i64 (q1 : Int)] 64) = W := ⟨_, rfl⟩
          have g8 : Below w8.heap.size w8 W8 := by rw [← hW8]; exact (below_alloc _ _).alloc (by simp) _
          have t8 : W8.heap[w8.heap.size]? = some (.cells #[.int .i64 r1.kind, .slice d1 r1.lt.length d2, .int .i64 r1.hs, .int .i64 r1.hf, .int .i64 r1.hu, .int .i64 r1.rs, .int .i64 r1.rv, .int .i64 r1.rb, .int .i64 r1.nm, .slice d3 r1.ln.length d4, .int .i64 r1.cs, .int .i64 r1.cf, .int .i64 r1.cc] 37 (0, 0)) := by rw [← hW8]; exact at_alloc (new_at _ _)
          have m8 : W8.heap[w8.heap.size + 1]? = some (.cells #[.int .i64 (s1 : Int), .int .i64 (q1 : Int)] 64 (0, 0)) := by rw [← hW8]; exact K.new_at1 _ _ _
          have bW8 := b8.trans (g8.mono b8.size)
          have t78 := at_below (at_below t7 hb8) g8
          have m78 := at_below (at_below m7 hb8) g8
          have p8 := at_below (at_below p7 hb8) g8
          have hz3 : W7.heap.size ≤ w8.heap.size := hb8.size
          have oA8 := own_any (own_any oA7 hb8) g8
          have oB8 := own_any (own_any oB7 hb8) g8
          have oC8 := own_any oA g8
          have oD8 := own_any oB g8
          clear HH t7 m7 p7 oA7 oB7 oA oB A1 hb8 g8 y0 y1 y2 hW7
          have x0 := cellsAt t78 0
          have x1 := cellsAt t78 1
          have x2 := cellsAt t78 2
          have x3 := cellsAt t78 3
          have x4 := cellsAt t78 4
          have x5 := cellsAt t78 5
          have x6 := cellsAt t78 6
          have x7 := cellsAt t78 7
          have x8 := cellsAt t78 8
          have x9 := cellsAt t78 9
          have x10 := cellsAt t78 10
          have x11 := cellsAt t78 11
          have x12 := cellsAt t78 12
          simp only [List.getElem?_toArray, List.getElem?_cons_zero, List.getElem?_cons_succ] at x0 x1 x2 x3 x4 x5 x6 x7 x8 x9 x10 x11 x12
          have v0 := cellsAt t8 0
          have v1 := cellsAt t8 1
          have v2 := cellsAt t8 2
          have v3 := cellsAt t8 3
          have v4 := cellsAt t8 4
          have v5 := cellsAt t8 5
          have v6 := cellsAt t8 6
          have v7 := cellsAt t8 7
          have v8 := cellsAt t8 8
          have v9 := cellsAt t8 9
          have v10 := cellsAt t8 10
          have v11 := cellsAt t8 11
          have v12 := cellsAt t8 12
          simp only [List.getElem?_toArray, List.getElem?_cons_zero, List.getElem?_cons_succ] at v0 v1 v2 v3 v4 v5 v6 v7 v8 v9 v10 v11 v12
          have A1 := Lib.hid (K.sameK r1.kind r1.hs r1.hf r1.hu r1.rs r1.rv r1.rb r1.nm r1.cs r1.cf r1.cc (.slice a1 r1.lt.length a2) (.slice a3 r1.ln.length a4) (.slice d1 r1.lt.length d2) (.slice d3 r1.ln.length d4) r1.lt r1.ln W8 (by omega) (by omega) (rowOfOwn oA8) (rowOfOwn oB8) (rowOfOwn oC8) (rowOfOwn oD8))
          have HH := Lib.hid (And.intro t78 (And.intro m78 (And.intro p8 (And.intro t8 m8))))
          clear t78 m78 p8 t8 m8 oA8 oB8 oC8 oD8
          refine Lib.hid ?_
          go_wp2_with (go_at_call 26; refine A1.out.mono ?_; rintro e w9 ⟨rfl, hb9⟩; refine Hid.out ?_)
          obtain ⟨t78, m78, p8, t8, m8⟩ := HH.out
          have b9 := bW8.trans (hb9.mono bW8.size)
          have t79 := at_below t78 hb9
          have m79 := at_below m78 hb9
          have p9 := at_below p8 hb9
          have t89 := at_below t8 hb9
          have m89 := at_below m8 hb9
          clear HH t78 m78 p8 t8 m8 A1 hW8 hb9 x0 x1 x2 x3 x4 x5 x6 x7 x8 x9 x10 x11 x12 v0 v1 v2 v3 v4 v5 v6 v7 v8 v9 v10 v11 v12
          have y0 := cellsAt p9 0
          have y1 := cellsAt p9 1
          have y2 := cellsAt p9 2
          simp only [List.getElem?_toArray, List.getElem?_cons_zero, List.getElem?_cons_succ] at y0 y1 y2
          have wl1 : IntKind.i64.wrap (64 * (D.length : Int)) = 64 * (D.length : Int) := wrapB (by omega) (by omega)
          have wl2 : IntKind.i64.wrap (64 * (D.length : Int) + 4096) = 64 * (D.length : Int) + 4096 := wrapB (by omega) (by omega)
          have h1 := H1.out
          have hr4 : inspOf P E (64 * (D.length : Int) + 4096) = (r, (S, Q), 0) := (HIE.out _).trans h1
          have A1 := Lib.hid (CI.out D (by omega) (64 * (D.length : Int) + 4096) (by omega) w9 b9 _ _ _ _ h1)
          have C4 := Lib.hid (fun (x : World) (h : Below w.heap.size w x) => CI.out E (by omega) (64 * (D.length : Int) + 4096) (by omega) x h _ _ _ _ hr4)
          have hl2 := insp_len P D (64 * (D.length : Int) + 4096)
          rw [h1] at hl2
          simp only at hl2
          have HH := Lib.hid (And.intro t79 (And.intro m79 (And.intro p9 (And.intro t89 m89))))
          clear t79 m79 p9 t89 m89 CI hr4 h1
          refine Lib.hid ?_
          go_wp2_with (go_at_call 25; refine A1.out.mono ?_; rintro e w10 ⟨VA, VB, rfl, oA, oB, hb10⟩; refine Hid.out ?_)
          obtain ⟨t79, m79, p9, t89, m89⟩ := HH.out
          obtain ⟨k1, k2, hVA⟩ := own_slice oA
          subst hVA
          obtain ⟨k3, k4, hVB⟩ := own_slice oB
          subst hVB
          have b10 := b9.trans (hb10.mono b9.size)
          have t10 := at_below t79 hb10
          have m710 := at_below m79 hb10
          have p10 := at_below p9 hb10
          have t810 := at_below t89 hb10
          have m810 := at_below m89 hb10
          have hl10 := at_lt t10
          have hm10 := at_lt m810
          have nl8 : w7.heap.size ≠ w10.heap.size := by omega
          have nl7 : w10.heap.size ≠ w7.heap.size := by omega
          have t10a := at_alloc (q := .cells #[.int .i64 0, .int .i64 0] 64) t10
          obtain ⟨z1, z2, z3, z4⟩ := end1 (W := w) [.int .i64 r.kind, .slice k1 r.lt.length k2, .int .i64 r.hs, .int .i64 r.hf, .int .i64 r.hu, .int .i64 r.rs, .int .i64 r.rv, .int .i64 r.rb, .int .i64 r.nm, .slice k3 r.ln.length k4, .int .i64 r.cs, .int .i64 r.cf, .int .i64 r.cc] t10 rfl (by omega) b10
          have oA10 := oA.kept z3 (.inr (own_kind_ne' oA t10 (by decide)))
          have oB10 := oB.kept z3 (.inr (own_kind_ne' oB t10 (by decide)))
          have m7c := grown_at z3 m710 (by omega)
          have pc := grown_at z3 p10 (by omega)
          have t8c := grown_at z3 t810 (by omega)
          have m8c := grown_at z3 m810 (by omega)
          simp only [setAll, Nat.zero_add, Nat.reduceAdd] at z1 z2 z3 z4 oA10 oB10 m7c pc t8c m8c
          obtain ⟨W10, hW10⟩ : ∃ W, (((((((((((((w10.setCell ⟨w7.heap.size, 0, none⟩ (.int .i64 r.kind)).setCell ⟨w7.heap.size, 1, none⟩ (.slice k1 r.lt.length k2)).setCell ⟨w7.heap.size, 2, none⟩ (.int .i64 r.hs)).setCell ⟨w7.heap.size, 3, none⟩ (.int .i64 r.hf)).setCell ⟨w7.heap.size, 4, none⟩ (.int .i64 r.hu)).setCell ⟨w7.heap.size, 5, none⟩ (.int .i64 r.rs)).setCell ⟨w7.heap.size, 6, none⟩ (.int .i64 r.rv)).setCell ⟨w7.heap.size, 7, none⟩ (.int .i64 r.rb)).setCell ⟨w7.heap.size, 8, none⟩ (.int .i64 r.nm)).setCell ⟨w7.heap.size, 9, none⟩ (.slice k3 r.ln.length k4)).setCell ⟨w7.heap.size, 10, none⟩ (.int .i64 r.cs)).setCell ⟨w7.heap.size, 11, none⟩ (.int .i64 r.cf)).setCell ⟨w7.heap.size, 12, none⟩ (.int .i64 r.cc)).alloc (.cells #[.int .i64 (S : Int), .int .i64 (Q : Int)] 64) = W := ⟨_, rfl⟩
          have r10 : W10.heap[w7.heap.size]? = some (.cells #[.int .i64 r.kind, .slice k1 r.lt.length k2, .int .i64 r.hs, .int .i64 r.hf, .int .i64 r.hu, .int .i64 r.rs, .int .i64 r.rv, .int .i64 r.rb, .int .i64 r.nm, .slice k3 r.ln.length k4, .int .i64 r.cs, .int .i64 r.cf, .int .i64 r.cc] 37 (0, 0)) := by rw [← hW10]; exact at_alloc z1
          have u10 : W10.heap[w10.heap.size]? = some (.cells #[.int .i64 (S : Int), .int .i64 (Q : Int)] 64 (0, 0)) := by rw [← hW10]; exact new_atN z4 _
          have m7W : W10.heap[w7.heap.size + 1]? = some (.cells #[.int .i64 (s1 : Int), .int .i64 (q1 : Int)] 64 (0, 0)) := by rw [← hW10]; exact at_alloc m7c
          have m8W : W10.heap[w8.heap.size + 1]? = some (.cells #[.int .i64 (s1 : Int), .int .i64 (q1 : Int)] 64 (0, 0)) := by rw [← hW10]; exact at_alloc m8c
          have pW := at_alloc (q := .cells #[.int .i64 (S : Int), .int .i64 (Q : Int)] 64) pc
          rw [hW10] at pW
          have t8W := at_alloc (q := .cells #[.int .i64 (S : Int), .int .i64 (Q : Int)] 64) t8c
          rw [hW10] at t8W
          have oAW := own_any oA10 (below_alloc _ (.cells #[.int .i64 (S : Int), .int .i64 (Q : Int)] 64))
          rw [hW10] at oAW
          have oBW := own_any oB10 (below_alloc _ (.cells #[.int .i64 (S : Int), .int .i64 (Q : Int)] 64))
          rw [hW10] at oBW
          have bW10 : Below w.heap.size w W10 := by rw [← hW10]; exact z2.alloc z2.size _
          have x0 := cellsAt t10 0
          have x1 := cellsAt t10 1
          have x2 := cellsAt t10 2
          have x3 := cellsAt t10 3
          have x4 := cellsAt t10 4
          have x5 := cellsAt t10 5
          have x6 := cellsAt t10 6
          have x7 := cellsAt t10 7
          have x8 := cellsAt t10 8
          have x9 := cellsAt t10 9
          have x10 := cellsAt t10 10
          have x11 := cellsAt t10 11
          have x12 := cellsAt t10 12
          simp only [List.getElem?_toArray, List.getElem?_cons_zero, List.getElem?_cons_succ] at x0 x1 x2 x3 x4 x5 x6 x7 x8 x9 x10 x11 x12
          have f0 := frozenAt t10 0
          have f1 := frozenAt t10 1
          have f2 := frozenAt t10 2
          have f3 := frozenAt t10 3
          have f4 := frozenAt t10 4
          have f5 := frozenAt t10 5
          have f6 := frozenAt t10 6
          have f7 := frozenAt t10 7
          have f8 := frozenAt t10 8
          have f9 := frozenAt t10 9
          have f10 := frozenAt t10 10
          have f11 := frozenAt t10 11
          have f12 := frozenAt t10 12
          have xa0 := cellsAt t10a 0
          have xa1 := cellsAt t10a 1
          have xa2 := cellsAt t10a 2
          have xa3 := cellsAt t10a 3
          have xa4 := cellsAt t10a 4
          have xa5 := cellsAt t10a 5
          have xa6 := cellsAt t10a 6
          have xa7 := cellsAt t10a 7
          have xa8 := cellsAt t10a 8
          have xa9 := cellsAt t10a 9
          have xa10 := cellsAt t10a 10
          have xa11 := cellsAt t10a 11
          have xa12 := cellsAt t10a 12
          simp only [List.getElem?_toArray, List.getElem?_cons_zero, List.getElem?_cons_succ] at xa0 xa1 xa2 xa3 xa4 xa5 xa6 xa7 xa8 xa9 xa10 xa11 xa12
          have fa0 := frozenAt t10a 0
          have fa1 := frozenAt t10a 1
          have fa2 := frozenAt t10a 2
          have fa3 := frozenAt t10a 3
          have fa4 := frozenAt t10a 4
          have fa5 := frozenAt t10a 5
          have fa6 := frozenAt t10a 6
          have fa7 := frozenAt t10a 7
          have fa8 := frozenAt t10a 8
          have fa9 := frozenAt t10a 9
          have fa10 := frozenAt t10a 10
          have fa11 := frozenAt t10a 11
          have fa12 := frozenAt t10a 12
          have yy0 := cellsAt pW 0
          have yy1 := cellsAt pW 1
          have yy2 := cellsAt pW 2
          simp only [List.getElem?_toArray, List.getElem?_cons_zero, List.getElem?_cons_succ] at yy0 yy1 yy2
          have A2 := Lib.hid (C4.out W10 bW10)
          have HW := Lib.hid (And.intro r10 (And.intro u10 (And.intro m7W (And.intro m8W (And.intro pW (And.intro t8W (And.intro oAW oBW)))))))
          clear HH t79 m79 p9 t89 m89 t10 m710 p10 t810 m810 t10a z1 z2 z3 oA10 oB10 m7c pc t8c m8c r10 u10 m7W m8W pW t8W oAW oBW oA oB A1 C4 y0 y1 y2 hb10
          refine Lib.hid ?_
          go_wp2_with (go_at_call 25; refine A2.out.mono ?_; rintro e w11 ⟨VA, VB, rfl, oA, oB, hb11⟩; refine Hid.out ?_)
          clear x0 x1 x2 x3 x4 x5 x6 x7 x8 x9 x10 x11 x12 f0 f1 f2 f3 f4 f5 f6 f7 f8 f9 f10 f11 f12 xa0 xa1 xa2 xa3 xa4 xa5 xa6 xa7 xa8 xa9 xa10 xa11 xa12 fa0 fa1 fa2 fa3 fa4 fa5 fa6 fa7 fa8 fa9 fa10 fa11 fa12 yy0 yy1 yy2
          obtain ⟨r10, u10, m7W, m8W, pW, t8W, oAW, oBW⟩ := HW.out
          obtain ⟨j1, j2, hVA⟩ := own_slice oA
          subst hVA
          obtain ⟨j3, j4, hVB⟩ := own_slice oB
          subst hVB
          have b11 := bW10.trans (hb11.mono bW10.size)
          have t11 := at_below t8W hb11
          have r11 := at_below r10 hb11
          have u11 := at_below u10 hb11
          have m711 := at_below m7W hb11
          have m811 := at_below m8W hb11
          have hl11 := at_lt t11
          have hu11 := at_lt u11
          have oA11 := own_any oAW hb11
          have oB11 := own_any oBW hb11
          have nl8 : w8.heap.size ≠ w11.heap.size := by omega
          have nl7 : w11.heap.size ≠ w8.heap.size := by omega
          have t11a := at_alloc (q := .cells #[.int .i64 0, .int .i64 0] 64) t11
          obtain ⟨z1, z2, z3, z4'⟩ := end1 (W := w) [.int .i64 r.kind, .slice j1 r.lt.length j2, .int .i64 r.hs, .int .i64 r.hf, .int .i64 r.hu, .int .i64 r.rs, .int .i64 r.rv, .int .i64 r.rb, .int .i64 r.nm, .slice j3 r.ln.length j4, .int .i64 r.cs, .int .i64 r.cf, .int .i64 r.cc] t11 rfl (by omega) b11
          have oCc := oA.kept z3 (.inr (own_kind_ne' oA t11 (by decide)))
          have oDc := oB.kept z3 (.inr (own_kind_ne' oB t11 (by decide)))
          have oAc := oA11.kept z3 (.inr (own_kind_ne' oA11 t11 (by decide)))
          have oBc := oB11.kept z3 (.inr (own_kind_ne' oB11 t11 (by decide)))
          have rc := grown_at z3 r11 (by omega)
          have uc := grown_at z3 u11 (by omega)
          have m7c := grown_at z3 m711 (by omega)
          have m8c := grown_at z3 m811 (by omega)
          simp only [setAll, Nat.zero_add, Nat.reduceAdd] at z1 z2 z3 z4' oCc oDc oAc oBc rc uc m7c m8c
          obtain ⟨W11, hW11⟩ : ∃ W, (((((((((((((w11.setCell ⟨w8.heap.size, 0, none⟩ (.int .i64 r.kind)).setCell ⟨w8.heap.size, 1, none⟩ (.slice j1 r.lt.length j2)).setCell ⟨w8.heap.size, 2, none⟩ (.int .i64 r.hs)).setCell ⟨w8.heap.size, 3, none⟩ (.int .i64 r.hf)).setCell ⟨w8.heap.size, 4, none⟩ (.int .i64 r.hu)).setCell ⟨w8.heap.size, 5, none⟩ (.int .i64 r.rs)).setCell ⟨w8.heap.size, 6, none⟩ (.int .i64 r.rv)).setCell ⟨w8.heap.size, 7, none⟩ (.int .i64 r.rb)).setCell ⟨w8.heap.size, 8, none⟩ (.int .i64 r.nm)).setCell ⟨w8.heap.size, 9, none⟩ (.slice j3 r.ln.length j4)).setCell ⟨w8.heap.size, 10, none⟩ (.int .i64 r.cs)).setCell ⟨w8.heap.size, 11, none⟩ (.int .i64 r.cf)).setCell ⟨w8.heap.size, 12, none⟩ (.int .i64 r.cc)).alloc (.cells #[.int .i64 (S : Int), .int .i64 (Q : Int)] 64) = W := ⟨_, rfl⟩
          have t12 : W11.heap[w8.heap.size]? = some (.cells #[.int .i64 r.kind, .slice j1 r.lt.length j2, .int .i64 r.hs, .int .i64 r.hf, .int .i64 r.hu, .int .i64 r.rs, .int .i64 r.rv, .int .i64 r.rb, .int .i64 r.nm, .slice j3 r.ln.length j4, .int .i64 r.cs, .int .i64 r.cf, .int .i64 r.cc] 37 (0, 0)) := by rw [← hW11]; exact at_alloc z1
          have v12 : W11.heap[w11.heap.size]? = some (.cells #[.int .i64 (S : Int), .int .i64 (Q : Int)] 64 (0, 0)) := by rw [← hW11]; exact new_atN z4' _
          have r12 : W11.heap[w7.heap.size]? = some (.cells #[.int .i64 r.kind, .slice k1 r.lt.length k2, .int .i64 r.hs, .int .i64 r.hf, .int .i64 r.hu, .int .i64 r.rs, .int .i64 r.rv, .int .i64 r.rb, .int .i64 r.nm, .slice k3 r.ln.length k4, .int .i64 r.cs, .int .i64 r.cf, .int .i64 r.cc] 37 (0, 0)) := by rw [← hW11]; exact at_alloc rc
          have u12 : W11.heap[w10.heap.size]? = some (.cells #[.int .i64 (S : Int), .int .i64 (Q : Int)] 64 (0, 0)) := by rw [← hW11]; exact at_alloc uc
          have m712 : W11.heap[w7.heap.size + 1]? = some (.cells #[.int .i64 (s1 : Int), .int .i64 (q1 : Int)] 64 (0, 0)) := by rw [← hW11]; exact at_alloc m7c
          have m812 : W11.heap[w8.heap.size + 1]? = some (.cells #[.int .i64 (s1 : Int), .int .i64 (q1 : Int)] 64 (0, 0)) := by rw [← hW11]; exact at_alloc m8c
          have oA12 := own_any oAc (below_alloc _ (.cells #[.int .i64 (S : Int), .int .i64 (Q : Int)] 64))
          rw [hW11] at oA12
          have oB12 := own_any oBc (below_alloc _ (.cells #[.int .i64 (S : Int), .int .i64 (Q : Int)] 64))
          rw [hW11] at oB12
          have oC12 := own_any oCc (below_alloc _ (.cells #[.int .i64 (S : Int), .int .i64 (Q : Int)] 64))
          rw [hW11] at oC12
          have oD12 := own_any oDc (below_alloc _ (.cells #[.int .i64 (S : Int), .int .i64 (Q : Int)] 64))
          rw [hW11] at oD12
          have bW11 : Below w.heap.size w W11 := by rw [← hW11]; exact z2.alloc z2.size _
          have x0 := cellsAt t11 0
          have x1 := cellsAt t11 1
          have x2 := cellsAt t11 2
          have x3 := cellsAt t11 3
          have x4 := cellsAt t11 4
          have x5 := cellsAt t11 5
          have x6 := cellsAt t11 6
          have x7 := cellsAt t11 7
          have x8 := cellsAt t11 8
          have x9 := cellsAt t11 9
          have x10 := cellsAt t11 10
          have x11 := cellsAt t11 11
          have x12 := cellsAt t11 12
          simp only [List.getElem?_toArray, List.getElem?_cons_zero, List.getElem?_cons_succ] at x0 x1 x2 x3 x4 x5 x6 x7 x8 x9 x10 x11 x12
          have f0 := frozenAt t11 0
          have f1 := frozenAt t11 1
          have f2 := frozenAt t11 2
          have f3 := frozenAt t11 3
          have f4 := frozenAt t11 4
          have f5 := frozenAt t11 5
          have f6 := frozenAt t11 6
          have f7 := frozenAt t11 7
          have f8 := frozenAt t11 8
          have f9 := frozenAt t11 9
          have f10 := frozenAt t11 10
          have f11 := frozenAt t11 11
          have f12 := frozenAt t11 12
          have xa0 := cellsAt t11a 0
          have xa1 := cellsAt t11a 1
          have xa2 := cellsAt t11a 2
          have xa3 := cellsAt t11a 3
          have xa4 := cellsAt t11a 4
          have xa5 := cellsAt t11a 5
          have xa6 := cellsAt t11a 6
          have xa7 := cellsAt t11a 7
          have xa8 := cellsAt t11a 8
          have xa9 := cellsAt t11a 9
          have xa10 := cellsAt t11a 10
          have xa11 := cellsAt t11a 11
          have xa12 := cellsAt t11a 12
          simp only [List.getElem?_toArray, List.getElem?_cons_zero, List.getElem?_cons_succ] at xa0 xa1 xa2 xa3 xa4 xa5 xa6 xa7 xa8 xa9 xa10 xa11 xa12
          have fa0 := frozenAt t11a 0
          have fa1 := frozenAt t11a 1
          have fa2 := frozenAt t11a 2
          have fa3 := frozenAt t11a 3
          have fa4 := frozenAt t11a 4
          have fa5 := frozenAt t11a 5
          have fa6 := frozenAt t11a 6
          have fa7 := frozenAt t11a 7
          have fa8 := frozenAt t11a 8
          have fa9 := frozenAt t11a 9
          have fa10 := frozenAt t11a 10
          have fa11 := frozenAt t11a 11
          have fa12 := frozenAt t11a 12
          have ra0 := cellsAt r12 0
          have ra1 := cellsAt r12 1
          have ra2 := cellsAt r12 2
          have ra3 := cellsAt r12 3
          have ra4 := cellsAt r12 4
          have ra5 := cellsAt r12 5
          have ra6 := cellsAt r12 6
          have ra7 := cellsAt r12 7
          have ra8 := cellsAt r12 8
          have ra9 := cellsAt r12 9
          have ra10 := cellsAt r12 10
          have ra11 := cellsAt r12 11
          have ra12 := cellsAt r12 12
          simp only [List.getElem?_toArray, List.getElem?_cons_zero, List.getElem?_cons_succ] at ra0 ra1 ra2 ra3 ra4 ra5 ra6 ra7 ra8 ra9 ra10 ra11 ra12
          have tb0 := cellsAt t12 0
          have tb1 := cellsAt t12 1
          have tb2 := cellsAt t12 2
          have tb3 := cellsAt t12 3
          have tb4 := cellsAt t12 4
          have tb5 := cellsAt t12 5
          have tb6 := cellsAt t12 6
          have tb7 := cellsAt t12 7
          have tb8 := cellsAt t12 8
          have tb9 := cellsAt t12 9
          have tb10 := cellsAt t12 10
          have tb11 := cellsAt t12 11
          have tb12 := cellsAt t12 12
          simp only [List.getElem?_toArray, List.getElem?_cons_zero, List.getElem?_cons_succ] at tb0 tb1 tb2 tb3 tb4 tb5 tb6 tb7 tb8 tb9 tb10 tb11 tb12
          have A3 := Lib.hid (K.sameK r.kind r.hs r.hf r.hu r.rs r.rv r.rb r.nm r.cs r.cf r.cc (.slice k1 r.lt.length k2) (.slice k3 r.ln.length k4) (.slice j1 r.lt.length j2) (.slice j3 r.ln.length j4) r.lt r.ln W11 (by omega) (by omega) (rowOfOwn oA12) (rowOfOwn oB12) (rowOfOwn oC12) (rowOfOwn oD12))
          have HV := Lib.hid (And.intro v12 (And.intro u12 (And.intro m712 m812)))
          clear HW r10 u10 m7W m8W pW t8W oAW oBW t11 r11 u11 m711 m811 oA11 oB11 t11a z1 z2 z3 oCc oDc oAc oBc rc uc m7c m8c t12 v12 r12 u12 m712 m812 oA12 oB12 oC12 oD12 oA oB A2 hb11
          refine Lib.hid ?_
          go_wp2_with (go_at_call 26; refine A3.out.mono ?_; rintro e w12 ⟨rfl, hb12⟩; refine Hid.out ?_)
          clear x0 x1 x2 x3 x4 x5 x6 x7 x8 x9 x10 x11 x12 f0 f1 f2 f3 f4 f5 f6 f7 f8 f9 f10 f11 f12 xa0 xa1 xa2 xa3 xa4 xa5 xa6 xa7 xa8 xa9 xa10 xa11 xa12 fa0 fa1 fa2 fa3 fa4 fa5 fa6 fa7 fa8 fa9 fa10 fa11 fa12 ra0 ra1 ra2 ra3 ra4 ra5 ra6 ra7 ra8 ra9 ra10 ra11 ra12 tb0 tb1 tb2 tb3 tb4 tb5 tb6 tb7 tb8 tb9 tb10 tb11 tb12 A3 hW11 hW10
          obtain ⟨v12, u12, m712, m812⟩ := HV.out
          have v13 := at_below v12 hb12
          have u13 := at_below u12 hb12
          have m713 := at_below m712 hb12
          have m813 := at_below m812 hb12
          have b12 := bW11.trans (hb12.mono bW11.size)
          clear HV v12 u12 m712 m812 hb12
          have x0 := cellsAt v13 0
          have x1 := cellsAt v13 1
          simp only [List.getElem?_toArray, List.getElem?_cons_zero, List.getElem?_cons_succ] at x0 x1
          have y0 := cellsAt u13 0
          have y1 := cellsAt u13 1
          simp only [List.getElem?_toArray, List.getElem?_cons_zero, List.getElem?_cons_succ] at y0 y1
          have f0 := cellsAt m713 0
          have f1 := cellsAt m713 1
          simp only [List.getElem?_toArray, List.getElem?_cons_zero, List.getElem?_cons_succ] at f0 f1
          have v0 := cellsAt m813 0
          have v1 := cellsAt m813 1
          simp only [List.getElem?_toArray, List.getElem?_cons_zero, List.getElem?_cons_succ] at v0 v1
          refine Lib.hid ?_
          go_wp2
          go_ret
          exact ⟨rfl, b12⟩
end Go.Proofs.YteibjmlimcpaoaaDoor.W
