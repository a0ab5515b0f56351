/-
  The law Publics answers true, and leaves alone what lay in memory.
-/
import Derived.Test.YteibjmlimcpaoaaGreatDoorLPuA
import Derived.Test.YteibjmlimcpaoaaGreatDoorLPuB
import Derived.Test.YteibjmlimcpaoaaGreatDoorLBbC
import Derived.Test.YteibjmlimcpaoaaGreatDoorLPl
set_option linter.unusedVariables false
set_option linter.unusedSimpArgs false
namespace Go.Proofs.YteibjmlimcpaoaaGreatDoor.V
open Go.RowKit Go.Sort
open Go.Proofs.YteibjmlimcpaoaaGreatDoor.W (at_below at_alloc new_at below_alloc PolIs pv strV Gl cell_lt newW)

set_option maxRecDepth 100000 in
set_option maxHeartbeats 60000000 in
theorem publicsV (P : Pol) (T I : Value) (D : List UInt8) (ag : Int) (w : World) (hp : PolIs P T I w) (hlt : P.tags.length ≤ 8796093021952) (hln : P.ids.length ≤ 17592186043904) (hD : D.length ≤ 140737488355328) (la : -9223372036854775808 ≤ ag) (ka : ag ≤ 9223372036854775807) (hg : Gl w) (htab : w.cell? ⟨7, 15, none⟩ = some (.int .u8 4)) :
    Calls Tryz.prog 4 #[pv T I P.text, strV D, .int .i64 ag] w fun e w' => e = .returned (.bool true) ∧ Below w.heap.size w w' := by
  obtain ⟨L, er, hr⟩ : ∃ L er, pubOf P D = (L, er) := ⟨_, _, rfl⟩
  have hl2 := pub_len P D L er hr
  have HG := Lib.hid (fun (x : World) (h : Below w.heap.size w x) => hg.on h)
  have HB := Lib.hid (fun (x : World) (h : Below w.heap.size w x) => (h.cell (p := ⟨7, 15, none⟩) (cell_lt htab)).trans htab)
  obtain ⟨pa, pcc, hTe, _⟩ := id hp.tags
  obtain ⟨ia, ic, hIe, _⟩ := id hp.ids
  subst hTe hIe
  have HO := Lib.hid (fun (T' I' : Value) (x : World) (h : Below w.heap.size w x) (hp' : PolIs P T' I' x) => publicO P T' I' D x (by omega) hp' (HG.out x h) (HB.out x h) L er hr)
  have HR := Lib.hid (fun (x : World) (h : Below w.heap.size w x) => publicD P (.slice pa P.tags.length pcc) (.slice ia P.ids.length ic) D x (by omega) (hp.on h) L er hr)
  have PK := Lib.hid (fun (x : World) => pickP ag 30 x la ka (by decide) (by decide))
  obtain ⟨W, hW⟩ : ∃ W, w.alloc (.cells #[.slice pa P.tags.length pcc, .slice ia P.ids.length ic, .int .i64 P.text] 25) = W := ⟨_, rfl⟩
  have hbW : Below w.heap.size w W := by rw [← hW]; exact below_alloc _ _
  have n0 : W.heap[w.heap.size]? = some (.cells #[.slice pa P.tags.length pcc, .slice ia P.ids.length ic, .int .i64 P.text] 25 (0, 0)) := by rw [← hW]; exact new_at _ _
  have HP := Lib.hid hp
  have CN := Lib.hid (newW W)
  have CPl := Lib.hid (fun (sp : Addr) (x : World) (h : Below w.heap.size w x) => plainV sp x (HG.out x h) (HB.out x h))
  unfold pv strV
  clear hr hg htab hp la ka
  go_enter Tryz.func4, Tryz.ntmps4
  go_wp2_with (go_at_call 10; refine CN.out.mono ?_; rintro e w1 ⟨⟨sp, rfl⟩, hb1⟩; refine Hid.out ?_)
  have b1 := hbW.trans (hb1.mono hbW.size)
  have C1 := Lib.hid (CPl.out sp w1 b1)
  refine Lib.hid ?_
  go_wp2_with (go_at_call 9; refine C1.out.mono ?_; rintro e w2 ⟨rfl, hb2'⟩; refine Hid.out ?_)
  have b2 := b1.trans (hb2'.mono b1.size)
  have n2 := at_below (at_below n0 hb1) hb2'
  have C2 := Lib.hid (HR.out w2 b2)
  unfold pv strV at C2
  clear C1 CN CPl hW n0 hbW hb1 hb2' b1
  have y0 := cellsAt n2 0
  have y1 := cellsAt n2 1
  have y2 := cellsAt n2 2
  simp only [List.getElem?_toArray, List.getElem?_cons_zero, List.getElem?_cons_succ] at y0 y1 y2
  refine Lib.hid ?_
  go_wp2_with (go_at_call 20; refine C2.out.mono ?_; rintro e w3 ⟨M, rfl, oM, hb3⟩; obtain ⟨ma, mc, rfl⟩ := Go.Proofs.YteibjmlimcpaoaaGreatDoor.W.own_slice oM; refine Hid.out ?_)
  clear y0 y1 y2 C2
  have b3 := b2.trans (hb3.mono b2.size)
  have n3 := at_below n2 hb3
  obtain ⟨W4, hW4⟩ : ∃ W, w3.alloc (.cells #[.slice none 0 0, .slice none 0 0, .slice none 0 0, .slice none 0 0, .slice none 0 0, .slice none 0 0, .int .i64 0] 56) = W := ⟨_, rfl⟩
  have bk0 : BookB w3.heap.size w3.heap.size [] 0 W4 := by rw [← hW4]; exact BookB.new w3
  have g4 : Below w3.heap.size w3 W4 := by rw [← hW4]; exact below_alloc _ _
  have mlt : Hid (∀ j, (Value.slice ma L.length mc).ownBlock = some j → j < w3.heap.size) := Lib.hid (fun j hj => (oM.lt j hj).2)
  have s3 : w.heap.size ≤ w3.heap.size := b3.size
  have PS0 : Hid (PS w w3.heap.size w3.heap.size w2.heap.size #[.slice pa P.tags.length pcc, .slice ia P.ids.length ic, .int .i64 P.text] L (.slice ma L.length mc) [] 0 W4) := Lib.hid ⟨b3.trans (g4.mono b3.size), at_below n3 g4, own_any oM g4, bk0⟩
  clear n2 n3 b2 b3 hb3 oM bk0 g4
  refine Lib.hid ?_
  go_wp2_with fail
  go_loopw [11] (fun is wr => ∃ (i : Nat) (es : List EnB), is = .int .i64 (i : Int) ∧ i ≤ 32 ∧ Hid (PS w w3.heap.size w3.heap.size w2.heap.size #[.slice pa P.tags.length pcc, .slice ia P.ids.length ic, .int .i64 P.text] L (.slice ma L.length mc) es (2 * i) wr) ∧ Hid (es.length = 8 * i ∧ ∀ e ∈ es, e.xs.length ≤ 2004)) (fun is _ => 32 - (intOf is).toNat)
  case atStart => exact ⟨0, [], rfl, by omega, PS0, Lib.hid ⟨rfl, fun e he => by cases he⟩⟩
  case round =>
    clear PS0 hW4
    obtain ⟨i, es, rfl, hi, HS, HE⟩ := hrel
    obtain ⟨Wa, hWa⟩ : ∃ W, W = wr := ⟨_, rfl⟩
    subst hWa
    go_wp2_with (go_at_call 21; refine (PK.out _).mono ?_; rintro e wq ⟨m, hm, rfl, hwq⟩; have hwq := hwq.symm; subst hwq; refine Hid.out ?_)
    have wm := wrapL (2 + (m : Int)) (by omega) (by omega)
    by_cases c1 : i < 2 + m
    · have ii1 : (i : Int) < 2 + (m : Int) := by omega
      have y0 := cellsAt HS.out.box 0
      have y1 := cellsAt HS.out.box 1
      have y2 := cellsAt HS.out.box 2
      simp only [List.getElem?_toArray, List.getElem?_cons_zero, List.getElem?_cons_succ] at y0 y1 y2
      have C2 := Lib.hid (lentP P (.slice pa P.tags.length pcc) (.slice ia P.ids.length ic) Wa (HP.out.on HS.out.bw) hlt hln)
      unfold pv at C2
      refine Lib.hid ?_
      go_wp2_with (go_at_call 11; refine C2.out.mono ?_; rintro e w4 ⟨hb4, gt, gn, ct, cn, rfl, hgl, hgg, hgt, hct, hgn, hcn⟩; refine Hid.out ?_)
      clear y0 y1 y2 C2 wm ii1
      obtain ⟨W5, hW5⟩ : ∃ W, w4.alloc (.cells #[.slice (some ⟨gt, 0, none⟩) P.tags.length (P.tags.length + 8), .slice (some ⟨gn, 0, none⟩) P.ids.length (P.ids.length + 8), .int .i64 P.text] 25) = W := ⟨_, rfl⟩
      have g5 : Below w4.heap.size w4 W5 := by rw [← hW5]; exact below_alloc _ _
      have q5 : W5.heap[w4.heap.size]? = some (.cells #[.slice (some ⟨gt, 0, none⟩) P.tags.length (P.tags.length + 8), .slice (some ⟨gn, 0, none⟩) P.ids.length (P.ids.length + 8), .int .i64 P.text] 25 (0, 0)) := by rw [← hW5]; exact new_at _ _
      have S5 := (HS.out.below hb4).below g5
      have t5 := at_below hgt g5
      have u5 := at_below hgn g5
      have hp5 : PolIs P (.slice (some ⟨gt, 0, none⟩) P.tags.length (P.tags.length + 8)) (.slice (some ⟨gn, 0, none⟩) P.ids.length (P.ids.length + 8)) W5 := lent_isP (HP.out.on S5.bw) t5 hct u5 hcn
      have C5 := Lib.hid (HO.out _ _ W5 S5.bw hp5)
      unfold pv strV at C5
      have sA : w.heap.size ≤ Wa.heap.size := HS.out.bw.size
      have sA3 : w3.heap.size ≤ Wa.heap.size := by obtain ⟨cs, h⟩ := HS.out.bk.box; have := (Array.getElem?_eq_some_iff.1 h).1; omega
      have s4 : gn < w4.heap.size := (Array.getElem?_eq_some_iff.1 hgn).1
      have s5 : w4.heap.size < W5.heap.size := (Array.getElem?_eq_some_iff.1 q5).1
      have E5 : Hid (∀ e ∈ es, (∀ j, e.L.ownBlock = some j → j < W5.heap.size) ∧ (∀ j, e.O.ownBlock = some j → j < W5.heap.size)) := Lib.hid S5.bk.lt
      have y0 := cellsAt q5 0
      have y1 := cellsAt q5 1
      have y2 := cellsAt q5 2
      simp only [List.getElem?_toArray, List.getElem?_cons_zero, List.getElem?_cons_succ] at y0 y1 y2
      have H5 := Lib.hid (And.intro S5 (And.intro q5 (And.intro t5 (And.intro u5 (And.intro hct hcn)))))
      clear HS S5 q5 t5 u5 hct hcn hgt hgn hb4 g5 hp5
      refine Lib.hid ?_
      go_wp2_with (go_at_call 22; refine C5.out.mono ?_; rintro e w6 ⟨V, rfl, oV, hb6⟩; obtain ⟨va, vc, rfl⟩ := Go.Proofs.YteibjmlimcpaoaaGreatDoor.W.own_slice oV; refine Hid.out ?_)
      clear y0 y1 y2 C5 hW5
      have S6 := H5.out.1.below hb6
      have q6 := at_below H5.out.2.1 hb6
      have t6 := at_below H5.out.2.2.1 hb6
      have u6 := at_below H5.out.2.2.2.1 hb6
      have C6 := Lib.hid (sameBV (.slice va L.length vc) (.slice ma L.length mc) L w6 (by omega) (rowOfOwn oV) (rowOfOwn S6.om))
      have H6 := Lib.hid (And.intro S6 (And.intro q6 (And.intro t6 (And.intro u6 oV))))
      have s6 : W5.heap.size ≤ w6.heap.size := hb6.size
      clear S6 q6 t6 u6 oV hb6
      refine Lib.hid ?_
      go_wp2_with (go_at_call 23; refine C6.out.mono ?_; rintro e w7 ⟨rfl, hb7⟩; refine Hid.out ?_)
      clear C6
      have S7 := H6.out.1.below hb7
      have q7 := at_below H6.out.2.1 hb7
      have t7 := at_below H6.out.2.2.1 hb7
      have u7 := at_below H6.out.2.2.2.1 hb7
      have o7 : OwnB W5.heap.size w7 (.slice va L.length vc) L := own_any H6.out.2.2.2.2 hb7
      have C7 := Lib.hid (keptP P (.slice pa P.tags.length pcc) (.slice ia P.ids.length ic) w7 (HP.out.on S7.bw) hlt hln gt gn ct cn hgg t7 H5.out.2.2.2.2.1 u7 H5.out.2.2.2.2.2)
      unfold pv at C7
      have y0 := cellsAt q7 0
      have y1 := cellsAt q7 1
      have y2 := cellsAt q7 2
      have z0 := cellsAt S7.box 0
      have z1 := cellsAt S7.box 1
      have z2 := cellsAt S7.box 2
      simp only [List.getElem?_toArray, List.getElem?_cons_zero, List.getElem?_cons_succ] at y0 y1 y2 z0 z1 z2
      have s7 : w6.heap.size ≤ w7.heap.size := hb7.size
      have H7 := Lib.hid (And.intro S7 (And.intro t7 (And.intro u7 o7)))
      clear S7 q7 t7 u7 o7 hb7 H6 H5
      refine Lib.hid ?_
      go_wp2_with (go_at_call 16; refine C7.out.mono ?_; rintro e w8 ⟨rfl, wk, gk1, gk2⟩; refine Hid.out ?_)
      clear C7 y0 y1 y2 z0 z1 z2
      have uk := Go.Proofs.YteibjmlimcpaoaaGreatDoor.W.grown_at gk1 H7.out.2.2.1 (by omega)
      have S8 := (H7.out.1.grown gk1 H7.out.2.1 (by omega) (by decide) (by decide) (by decide) (by decide)).grown gk2 uk (by omega) (by decide) (by decide) (by decide) (by decide)
      have o8 := (H7.out.2.2.2.grown gk1 H7.out.2.1 (by decide)).grown gk2 uk (by decide)
      have s8 : w7.heap.size ≤ w8.heap.size := Nat.le_trans gk1.size gk2.size
      have C8 := Lib.hid (stillB w3.heap.size w3.heap.size (2 * i) es w8 (by rw [HE.out.1]; omega) (fun e he => by have := HE.out.2 e he; omega) S8.bk)
      have H8 := Lib.hid (And.intro S8 o8)
      clear uk gk1 gk2 H7 S8 o8
      refine Lib.hid ?_
      go_wp2_with (go_at_call 19; refine C8.out.mono ?_; rintro e w9 ⟨rfl, hb9⟩; refine Hid.out ?_)
      clear C8
      have S9 := H8.out.1.below hb9
      have o9 : OwnB W5.heap.size w9 (.slice va L.length vc) L := own_any H8.out.2 hb9
      have C9 := Lib.hid (HO.out _ _ w9 S9.bw (HP.out.on S9.bw))
      unfold pv strV at C9
      have y0 := cellsAt S9.box 0
      have y1 := cellsAt S9.box 1
      have y2 := cellsAt S9.box 2
      simp only [List.getElem?_toArray, List.getElem?_cons_zero, List.getElem?_cons_succ] at y0 y1 y2
      have s9 : w8.heap.size ≤ w9.heap.size := hb9.size
      have vlt : Hid (∀ j, (Value.slice va L.length vc).ownBlock = some j → W5.heap.size ≤ j ∧ j < w9.heap.size) := Lib.hid (fun j hj => o9.lt j hj)
      have H9 := Lib.hid (And.intro S9 o9)
      clear H8 S9 o9 hb9
      refine Lib.hid ?_
      go_wp2_with (go_at_call 22; refine C9.out.mono ?_; rintro e w10 ⟨V, rfl, oX, hb10⟩; obtain ⟨xa, xc, rfl⟩ := Go.Proofs.YteibjmlimcpaoaaGreatDoor.W.own_slice oX; refine Hid.out ?_)
      clear C9 y0 y1 y2
      have S10 := H9.out.1.below hb10
      have o10 : OwnB w3.heap.size w10 (.slice va L.length vc) L := OwnB.base (own_any H9.out.2 hb10) (by omega)
      have s10 : w9.heap.size ≤ w10.heap.size := hb10.size
      have xlt : Hid (∀ j, (Value.slice xa L.length xc).ownBlock = some j → w9.heap.size ≤ j ∧ j < w10.heap.size) := Lib.hid (fun j hj => oX.lt j hj)
      have C10 := Lib.hid (boolsV w3.heap.size w3.heap.size (2 * i) es L (.slice va L.length vc) w10 (by omega) (by omega) (by rw [HE.out.1]; omega) hl2 S10.bk o10 (fun e he j hj => ⟨fun h => by have := (E5.out e he).1 j h; have := (vlt.out j hj).1; omega, fun h => by have := (E5.out e he).2 j h; have := (vlt.out j hj).1; omega⟩))
      have H10 := Lib.hid (And.intro S10 (And.intro o10 oX))
      clear H9 S10 o10 oX hb10
      refine Lib.hid ?_
      go_wp2_with (go_at_call 24; refine C10.out.mono ?_; rintro e w11 ⟨rfl, hb11, fr11, new, hn4, bk11, hc11⟩; refine Hid.out ?_)
      clear C10
      obtain ⟨cs10, hq10⟩ := H10.out.1.bk.box
      have S11 : PS w w3.heap.size w3.heap.size w2.heap.size #[.slice pa P.tags.length pcc, .slice ia P.ids.length ic, .int .i64 P.text] L (.slice ma L.length mc) (es ++ new) (2 * i + 1) w11 := H10.out.1.fr H10.out.2.1 s3 (fun j hj e => by have := mlt.out j hj; have := (vlt.out j e.symm).1; omega) hb11 fr11 bk11
      have x11 : OwnB w9.heap.size w11 (.slice xa L.length xc) L := H10.out.2.2.fr fr11 hq10 (fun j hj e => by have := (xlt.out j hj).1; have := (vlt.out j e.symm).2; omega)
      have E11 : Hid ((es ++ new).length = 8 * i + 4 ∧ (∀ e ∈ es ++ new, e.xs.length ≤ 2004) ∧ ∀ e ∈ es ++ new, ∀ j, (Value.slice xa L.length xc).ownBlock = some j → e.L.ownBlock ≠ some j ∧ e.O.ownBlock ≠ some j) := by
        refine Lib.hid ⟨by rw [List.length_append, HE.out.1, hn4], fun e he => ?_, fun e he j hj => ?_⟩
        · rcases List.mem_append.1 he with he | he
          · exact HE.out.2 e he
          · exact (hc11 e he).1
        · have hx := xlt.out j hj
          rcases List.mem_append.1 he with he | he
          · exact ⟨fun h => by have := (E5.out e he).1 j h; omega, fun h => by have := (E5.out e he).2 j h; omega⟩
          · refine ⟨fun h => ?_, fun h => by have := (hc11 e he).2.2 j h; omega⟩
            rcases (hc11 e he).2.1 j h with h2 | h2
            · have := (vlt.out j h2.symm).2
              omega
            · omega
      have C11 := Lib.hid (sameBV (.slice xa L.length xc) (.slice ma L.length mc) L w11 (by omega) (rowOfOwn x11) (rowOfOwn S11.om))
      have s11 : w10.heap.size ≤ w11.heap.size := hb11.size
      have H11 := Lib.hid (And.intro S11 x11)
      clear H10 S11 x11 hb11 fr11 bk11 hc11 hn4 hq10
      refine Lib.hid ?_
      go_wp2_with (go_at_call 23; refine C11.out.mono ?_; rintro e w12 ⟨rfl, hb12⟩; refine Hid.out ?_)
      clear C11
      have S12 := H11.out.1.below hb12
      have x12 : OwnB w3.heap.size w12 (.slice xa L.length xc) L := OwnB.base (own_any H11.out.2 hb12) (by omega)
      have s12 : w11.heap.size ≤ w12.heap.size := hb12.size
      have C12 := Lib.hid (boolsV w3.heap.size w3.heap.size (2 * i + 1) (es ++ new) L (.slice xa L.length xc) w12 (by omega) (by omega) (by rw [E11.out.1]; omega) hl2 S12.bk x12 E11.out.2.2)
      have H12 := Lib.hid (And.intro S12 x12)
      clear H11 S12 x12 hb12
      refine Lib.hid ?_
      go_wp2_with (go_at_call 24; refine C12.out.mono ?_; rintro e w13 ⟨rfl, hb13, fr13, new2, hn4, bk13, hc13⟩; refine Hid.out ?_)
      clear C12
      have S13 : PS w w3.heap.size w3.heap.size w2.heap.size #[.slice pa P.tags.length pcc, .slice ia P.ids.length ic, .int .i64 P.text] L (.slice ma L.length mc) (es ++ new ++ new2) (2 * i + 1 + 1) w13 := H12.out.1.fr H12.out.2 s3 (fun j hj e => by have := mlt.out j hj; have := (xlt.out j e.symm).1; omega) hb13 fr13 bk13
      have E13 : Hid ((es ++ new ++ new2).length = 8 * (i + 1) ∧ ∀ e ∈ es ++ new ++ new2, e.xs.length ≤ 2004) := by
        refine Lib.hid ⟨by rw [List.length_append, E11.out.1, hn4]; omega, fun e he => ?_⟩
        rcases List.mem_append.1 he with he | he
        · exact E11.out.2.1 e he
        · exact (hc13 e he).1
      have C13 := Lib.hid (stillB w3.heap.size w3.heap.size (2 * i + 1 + 1) (es ++ new ++ new2) w13 (by rw [E13.out.1]; omega) (fun e he => by have := E13.out.2 e he; omega) S13.bk)
      have H13 := Lib.hid S13
      clear H12 S13 hb13 fr13 bk13 hc13 hn4 E11
      refine Lib.hid ?_
      go_wp2_with (go_at_call 19; refine C13.out.mono ?_; rintro e w14 ⟨rfl, hb14⟩; refine Hid.out ?_)
      clear C13
      have H14 := Lib.hid (H13.out.below hb14)
      clear H13 hb14
      have hee : ¬ (¬ er = er) := fun h => h rfl
      refine Lib.hid ?_
      go_wp2_with fail
      exact ⟨⟨i + 1, es ++ new ++ new2, by go_num, by omega, Lib.hid H14.out, E13⟩, by simp [intOf]; omega⟩
    · have ii1 : ¬ ((i : Int) < 2 + (m : Int)) := by omega
      have hbw := HS.out.bw
      refine Lib.hid ?_
      go_wp2_with fail
      go_ret
      exact ⟨rfl, hbw⟩
end Go.Proofs.YteibjmlimcpaoaaGreatDoor.V
