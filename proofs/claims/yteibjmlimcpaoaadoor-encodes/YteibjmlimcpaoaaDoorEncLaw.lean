/-
  The law Encodes answers true, for every report wherever its lists lie (of every length that memory holds); nothing that lay in memory turns.
-/
import Derived.Test.YteibjmlimcpaoaaDoorEEn
import Derived.Test.YteibjmlimcpaoaaDoorLKept
set_option linter.unusedVariables false
set_option linter.unusedSimpArgs false
namespace Go.Proofs.YteibjmlimcpaoaaDoor
open Go.RowKit Go.Sort

theorem rowNil (w : World) (xs : List Value) : RowIs w (.slice none 0 0) 0 xs := ⟨none, 0, rfl, fun h => by omega⟩
def noneL : List UInt8 := [1, 0, 8, 0, 0, 0, 0, 8, 0, 0, 0, 0, 8, 0, 8, 0, 0, 0, 0, 0, 0]
theorem enc_none : encOf 1 8 0 0 8 0 0 8 8 0 0 (tabsR []) (nmsR []) = (noneL, 0) := by decide

set_option maxRecDepth 100000 in
set_option maxHeartbeats 2000000 in
theorem encodes5 (kind hs hf hu rs rv rb nm cs cf cc : Int) (T N : Value) (lt : List Tab) (ln : List Nm) (w : World)
    (hlt : lt.length ≤ 4398046510976) (hln : ln.length ≤ 2199023255488) (htx : ∀ x ∈ ln, x.tx.size ≤ 9223372036854775807) (hT : RowIs w T lt.length (tcells lt)) (hN : RowIs w N ln.length (ncells ln)) (hu' : Utabs w) :
    Calls Tryd.prog 5 #[.agg #[.int .i64 kind, T, .int .i64 hs, .int .i64 hf, .int .i64 hu, .int .i64 rs, .int .i64 rv, .int .i64 rb, .int .i64 nm, N, .int .i64 cs, .int .i64 cf, .int .i64 cc]] w
      fun e w' => e = .returned (.bool true) ∧ Below w.heap.size w w' := by
  have HT := Lib.hid hT
  have HN := Lib.hid hN
  have HU := Lib.hid hu'
  have hTs : ∃ ao n cap, T = .slice ao n cap := by obtain ⟨ao, cap, h, _⟩ := hT; exact ⟨_, _, _, h⟩
  have hNs : ∃ ao n cap, N = .slice ao n cap := by obtain ⟨ao, cap, h, _⟩ := hN; exact ⟨_, _, _, h⟩
  obtain ⟨tao, tn, tcap, hTe⟩ := hTs
  obtain ⟨nao, nn, ncap, hNe⟩ := hNs
  subst hTe hNe
  clear hT hN hu'
  have E0 := Lib.hid (fun (w1 : World) (h : Below w.heap.size w w1) => enc11 1 8 0 0 8 0 0 8 8 0 0 (.slice none 0 0) (.slice none 0 0) [] [] w1 (by simp) (by simp) (by simp) (rowNil _ _) (rowNil _ _) (HU.out.below h) _ enc_none)
  have L := Lib.hid (fun (w1 : World) (h : Below w.heap.size w w1) => lent12 kind hs hf hu rs rv rb nm cs cf cc (.slice tao tn tcap) (.slice nao nn ncap) lt ln w1 hlt hln (HT.out.on h) (HN.out.on h))
  obtain ⟨r, hr⟩ : ∃ r, encOf kind hs hf hu rs rv rb nm cs cf cc (tabsR lt) (nmsR ln) = r := ⟨_, rfl⟩
  have E1 := Lib.hid (fun (w1 : World) (h : Below w.heap.size w w1) T' N' hT' hN' => enc11 kind hs hf hu rs rv rb nm cs cf cc T' N' lt ln w1 (by omega) (by omega) htx hT' hN' (HU.out.below h) r hr)
  have E2 := Lib.hid (fun (w1 : World) (h : Below w.heap.size w w1) => encode7 kind hs hf hu rs rv rb nm cs cf cc (.slice tao tn tcap) (.slice nao nn ncap) lt ln w1 (by omega) (by omega) htx (HT.out.on h) (HN.out.on h) r hr)
  have KP := Lib.hid (fun (w1 : World) (h : Below w.heap.size w w1) gt gn ct cn hgt hct hgn hcn => kept14 kind hs hf hu rs rv rb nm cs cf cc (.slice tao tn tcap) (.slice nao nn ncap) gt gn ct cn lt ln w1 hlt hln (HT.out.on h) (HN.out.on h) hgt hct hgn hcn)
  obtain ⟨S, hS⟩ : ∃ S : ByteArray, ByteArray.mk r.1.toArray = S := ⟨_, rfl⟩
  obtain ⟨X, hX⟩ : ∃ X : Int, r.2 = X := ⟨_, rfl⟩
  rw [hS, hX] at E1 E2
  clear hr hS hX htx HU HT HN
  go_enter Tryd.func5, Tryd.ntmps5
  have b0 : Below w.heap.size w ((w.alloc (.cells #[.int .i64 kind, .slice tao tn tcap, .int .i64 hs, .int .i64 hf, .int .i64 hu, .int .i64 rs, .int .i64 rv, .int .i64 rb, .int .i64 nm, .slice nao nn ncap, .int .i64 cs, .int .i64 cf, .int .i64 cc] 37)).alloc (.cells #[.int .i64 1, .slice none 0 0, .int .i64 8, .int .i64 0, .int .i64 0, .int .i64 8, .int .i64 0, .int .i64 0, .int .i64 8, .slice none 0 0, .int .i64 8, .int .i64 0, .int .i64 0] 37)) := ((Below.refl _ _).alloc (Nat.le_refl _) _).alloc (by simp) _
  have a0 := allocOldN (o' := .cells #[.int .i64 1, .slice none 0 0, .int .i64 8, .int .i64 0, .int .i64 0, .int .i64 8, .int .i64 0, .int .i64 0, .int .i64 8, .slice none 0 0, .int .i64 8, .int .i64 0, .int .i64 0] 37) (allocAt w (.cells #[.int .i64 kind, .slice tao tn tcap, .int .i64 hs, .int .i64 hf, .int .i64 hu, .int .i64 rs, .int .i64 rv, .int .i64 rb, .int .i64 nm, .slice nao nn ncap, .int .i64 cs, .int .i64 cf, .int .i64 cc] 37))
  go_wp2_with (go_at_call 13; refine (E0.out _ b0).mono ?_; rintro e w1 ⟨rfl, hb1⟩; refine Hid.out ?_)
  have b1 := b0.trans (hb1.mono b0.size)
  have a1 := belowAt' hb1 a0
  clear a0 b0 hb1 E0
  have x0 := cellsAt a1 0
  have x1 := cellsAt a1 1
  have x2 := cellsAt a1 2
  have x3 := cellsAt a1 3
  have x4 := cellsAt a1 4
  have x5 := cellsAt a1 5
  have x6 := cellsAt a1 6
  have x7 := cellsAt a1 7
  have x8 := cellsAt a1 8
  have x9 := cellsAt a1 9
  have x10 := cellsAt a1 10
  have x11 := cellsAt a1 11
  have x12 := cellsAt a1 12
  simp only [List.getElem?_toArray, List.getElem?_cons_zero, List.getElem?_cons_succ] at x0 x1 x2 x3 x4 x5 x6 x7 x8 x9 x10 x11 x12
  refine Lib.hid ?_
  go_wp2_with (go_at_call 14; refine (L.out _ b1).mono ?_; rintro e w2 ⟨hb2, gt, gn, ct, cn, rfl, tg, hct, ng, hcn⟩; refine Hid.out ?_)
  clear x0 x1 x2 x3 x4 x5 x6 x7 x8 x9 x10 x11 x12
  have b2 := b1.trans (hb2.mono b1.size)
  have a2 := belowAt' hb2 a1
  have HCT := Lib.hid hct
  have HCN := Lib.hid hcn
  clear a1 b1 hb2 L hct hcn
  have b3 : Below w.heap.size w (w2.alloc (.cells #[.int .i64 kind, .slice (some ⟨gt, 0, none⟩) lt.length (lt.length + 8), .int .i64 hs, .int .i64 hf, .int .i64 hu, .int .i64 rs, .int .i64 rv, .int .i64 rb, .int .i64 nm, .slice (some ⟨gn, 0, none⟩) ln.length (ln.length + 8), .int .i64 cs, .int .i64 cf, .int .i64 cc] 37)) := b2.alloc b2.size _
  have a3 := allocOldN (o' := .cells #[.int .i64 kind, .slice (some ⟨gt, 0, none⟩) lt.length (lt.length + 8), .int .i64 hs, .int .i64 hf, .int .i64 hu, .int .i64 rs, .int .i64 rv, .int .i64 rb, .int .i64 nm, .slice (some ⟨gn, 0, none⟩) ln.length (ln.length + 8), .int .i64 cs, .int .i64 cf, .int .i64 cc] 37) a2
  have tg3 := allocOldN (o' := .cells #[.int .i64 kind, .slice (some ⟨gt, 0, none⟩) lt.length (lt.length + 8), .int .i64 hs, .int .i64 hf, .int .i64 hu, .int .i64 rs, .int .i64 rv, .int .i64 rb, .int .i64 nm, .slice (some ⟨gn, 0, none⟩) ln.length (ln.length + 8), .int .i64 cs, .int .i64 cf, .int .i64 cc] 37) tg
  have ng3 := allocOldN (o' := .cells #[.int .i64 kind, .slice (some ⟨gt, 0, none⟩) lt.length (lt.length + 8), .int .i64 hs, .int .i64 hf, .int .i64 hu, .int .i64 rs, .int .i64 rv, .int .i64 rb, .int .i64 nm, .slice (some ⟨gn, 0, none⟩) ln.length (ln.length + 8), .int .i64 cs, .int .i64 cf, .int .i64 cc] 37) ng
  have q3 := allocAt w2 (.cells #[.int .i64 kind, .slice (some ⟨gt, 0, none⟩) lt.length (lt.length + 8), .int .i64 hs, .int .i64 hf, .int .i64 hu, .int .i64 rs, .int .i64 rv, .int .i64 rb, .int .i64 nm, .slice (some ⟨gn, 0, none⟩) ln.length (ln.length + 8), .int .i64 cs, .int .i64 cf, .int .i64 cc] 37)
  have hsz2 := (Array.getElem?_eq_some_iff.1 a2).1
  refine Lib.hid ?_
  go_wp2_with (go_at_call 13; refine (E1.out _ b3 _ _ (rowT lt _ _ tg3 HCT.out) (rowN ln _ _ ng3 HCN.out)).mono ?_; rintro e w4 ⟨rfl, hb4⟩; refine Hid.out ?_)
  have b4 := b3.trans (hb4.mono b3.size)
  have a4 := belowAt' hb4 a3
  have tg4 := belowAt' hb4 tg3
  have ng4 := belowAt' hb4 ng3
  have q4 := belowAt' hb4 q3
  clear a2 b2 tg ng a3 b3 tg3 ng3 q3 hb4 E1
  have x0 := cellsAt a4 0
  have x1 := cellsAt a4 1
  have x2 := cellsAt a4 2
  have x3 := cellsAt a4 3
  have x4 := cellsAt a4 4
  have x5 := cellsAt a4 5
  have x6 := cellsAt a4 6
  have x7 := cellsAt a4 7
  have x8 := cellsAt a4 8
  have x9 := cellsAt a4 9
  have x10 := cellsAt a4 10
  have x11 := cellsAt a4 11
  have x12 := cellsAt a4 12
  simp only [List.getElem?_toArray, List.getElem?_cons_zero, List.getElem?_cons_succ] at x0 x1 x2 x3 x4 x5 x6 x7 x8 x9 x10 x11 x12
  refine Lib.hid ?_
  go_wp2_with (go_at_call 15; refine (E2.out _ b4).mono ?_; rintro e w5 ⟨rfl, hb5⟩; refine Hid.out ?_)
  clear x0 x1 x2 x3 x4 x5 x6 x7 x8 x9 x10 x11 x12
  have b5 := b4.trans (hb5.mono b4.size)
  have a5 := belowAt' hb5 a4
  have tg5 := belowAt' hb5 tg4
  have ng5 := belowAt' hb5 ng4
  have q5 := belowAt' hb5 q4
  clear a4 b4 tg4 ng4 q4 hb5 E2
  have x0 := cellsAt a5 0
  have x1 := cellsAt a5 1
  have x2 := cellsAt a5 2
  have x3 := cellsAt a5 3
  have x4 := cellsAt a5 4
  have x5 := cellsAt a5 5
  have x6 := cellsAt a5 6
  have x7 := cellsAt a5 7
  have x8 := cellsAt a5 8
  have x9 := cellsAt a5 9
  have x10 := cellsAt a5 10
  have x11 := cellsAt a5 11
  have x12 := cellsAt a5 12
  simp only [List.getElem?_toArray, List.getElem?_cons_zero, List.getElem?_cons_succ] at x0 x1 x2 x3 x4 x5 x6 x7 x8 x9 x10 x11 x12
  have y0 := cellsAt q5 0
  have y1 := cellsAt q5 1
  have y2 := cellsAt q5 2
  have y3 := cellsAt q5 3
  have y4 := cellsAt q5 4
  have y5 := cellsAt q5 5
  have y6 := cellsAt q5 6
  have y7 := cellsAt q5 7
  have y8 := cellsAt q5 8
  have y9 := cellsAt q5 9
  have y10 := cellsAt q5 10
  have y11 := cellsAt q5 11
  have y12 := cellsAt q5 12
  simp only [List.getElem?_toArray, List.getElem?_cons_zero, List.getElem?_cons_succ] at y0 y1 y2 y3 y4 y5 y6 y7 y8 y9 y10 y11 y12
  refine Lib.hid ?_
  go_wp2_with (go_at_call 16; refine (KP.out _ b5 gt gn ct cn tg5 HCT.out ng5 HCN.out).mono ?_; rintro e w6 ⟨rfl, hb6⟩; refine Hid.out ?_)
  clear x0 x1 x2 x3 x4 x5 x6 x7 x8 x9 x10 x11 x12
  clear y0 y1 y2 y3 y4 y5 y6 y7 y8 y9 y10 y11 y12
  have b6 := b5.trans (hb6.mono b5.size)
  clear a5 tg5 ng5 q5 b5 hb6 KP HCT HCN
  refine Lib.hid ?_
  go_wp2
  go_ret
  exact ⟨rfl, b6⟩
end Go.Proofs.YteibjmlimcpaoaaDoor
