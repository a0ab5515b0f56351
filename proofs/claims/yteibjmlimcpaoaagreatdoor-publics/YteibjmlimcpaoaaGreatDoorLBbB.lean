/-
  What the law's own Book.bools leaves: the list of yes and no turned over, and four entries more in the book; what stood in the book stands there still.
-/
import Derived.Test.YteibjmlimcpaoaaGreatDoorLBbA
import Derived.Test.YteibjmlimcpaoaaGreatDoorLBook
import Derived.Laws.MakeOwn
set_option linter.unusedVariables false
set_option linter.unusedSimpArgs false
namespace Go.Proofs.YteibjmlimcpaoaaGreatDoor.V
open Go.RowKit Go.Sort

theorem infoBl : (Tryz.prog.info? 4).map (fun i => (i.zero, i.size, i.bytes)) = some (some (.bool false), 1, 1) := by kernel_rfl
theorem made_bl (n : Nat) : madeCells (Value.bool false).cells (n * 1) = ((List.replicate n false).map Value.bool).toArray := by
  apply Array.ext
  · simp [madeCells]
  · intro i h1 h2
    simp [madeCells, Value.cells, Nat.mod_one]
theorem infoRow : (Tryz.prog.info? 60).map (fun i => (i.zero, i.size, i.bytes)) = some (some (.slice none 0 0), 1, 24) := by kernel_rfl
theorem sizeBool : (Tryz.prog.info? 4).map (·.size) = some 1 := by kernel_rfl
theorem bools_one (l : List Bool) : ∀ u ∈ l.map Value.bool, u.oneCell' = true := by
  intro u hu
  obtain ⟨b, _, rfl⟩ := List.mem_map.1 hu
  rfl
def notL (xs : List Bool) (k : Nat) : List Bool := (xs.take k).map (!·)
theorem notL_len (xs : List Bool) (k : Nat) (h : k ≤ xs.length) : (notL xs k).length = k := by
  unfold notL
  rw [List.length_map, List.length_take, Nat.min_eq_left h]
theorem notL_next (xs : List Bool) (k : Nat) (x : Bool) (h : xs[k]? = some x) : notL xs (k + 1) = notL xs k ++ [!x] := by
  unfold notL
  rw [List.take_add_one, h, List.map_append]
  rfl

set_option maxRecDepth 100000 in
set_option maxHeartbeats 4000000 in
theorem boolsV (B bb n : Nat) (es : List EnB) (xs : List Bool) (l : Value) (w : World) (hBw : B ≤ w.heap.size) (hn : n ≤ 1000000) (he : es.length ≤ 1000000) (hx : xs.length ≤ 2000) (hb : BookB B bb es n w) (ol : OwnB B w l xs) (dl : ∀ e ∈ es, ∀ j, l.ownBlock = some j → e.L.ownBlock ≠ some j ∧ e.O.ownBlock ≠ some j) :
    Calls Tryz.prog 24 #[.pointer (some ⟨bb, 0, none⟩), l] w fun e w' => e = .returned (.tuple #[]) ∧ Below B w w' ∧ FrB bb l.ownBlock w w' ∧ ∃ new : List EnB, new.length = 4 ∧ BookB B bb (es ++ new) (n + 1) w' ∧
      ∀ e ∈ new, e.xs.length ≤ 2004 ∧ (∀ j, e.L.ownBlock = some j → some j = l.ownBlock ∨ w.heap.size ≤ j) ∧ (∀ j, e.O.ownBlock = some j → w.heap.size ≤ j) := by
  obtain ⟨hB, VB, VW, hq, oB, oW, hBW, hes⟩ := hb
  unfold OwnB at ol
  obtain ⟨la, lc, rfl, _⟩ := own_slice ol
  have x6 := cellsAt hq 6
  have f6 := frozenAt hq 6
  simp only [List.getElem?_toArray, List.getElem?_cons_zero, List.getElem?_cons_succ] at x6
  have w1 := wrapL ((n : Int) + 1) (by omega) (by omega)
  have hblt : bb < w.heap.size := (Array.getElem?_eq_some_iff.1 hq).1
  have g0 : w.grownBy (w.setCell ⟨bb, 6, none⟩ (.int .i64 ((n : Int) + 1))) (some bb) := grown_set (World.grownBy.refl _ _) _ _
  have q1 : (w.setCell ⟨bb, 6, none⟩ (.int .i64 ((n : Int) + 1))).heap[bb]? = some (.cells #[.slice none 0 0, .slice none 0 0, .slice none 0 0, VB, VW, .slice none 0 0, .int .i64 ((n : Int) + 1)] 56 (0, 0)) := setCell_row hq _
  have k0 : KB w B bb ((n : Int) + 1) (Value.slice la xs.length lc).ownBlock es VB VW (es.map (·.L)) (es.map (·.O)) (.slice la xs.length lc) (notL xs 0 ++ xs.drop 0) (.slice none 0 0) (notL xs 0) (w.setCell ⟨bb, 6, none⟩ (.int .i64 ((n : Int) + 1))) :=
    ⟨hB, hBw, (Below.refl _ _).grown g0 hBw (fun j hj => by cases hj; exact hB), hblt, q1, by rw [List.length_map]; exact oB.kept g0 (.inr (own_kind_ne' oB hq (by decide))), by rw [List.length_map]; exact oW.kept g0 (.inr (own_kind_ne' oW hq (by decide))), hBW, fun e he => ⟨(hes e he).1.kept g0 (.inr (own_kind_ne' (hes e he).1 hq (by decide))), (hes e he).2.kept g0 (.inr (own_kind_ne' (hes e he).2 hq (by decide)))⟩, FrB.row (fun k cs t fz a _ _ _ => a) g0 (.inr (.inr rfl)), ol.kept g0 (.inr (own_kind_ne' ol hq (by decide))), World.ownsRow_nil _ _ _ _, fun j hj => .inl ⟨hj.symm, (ol.lt j hj).2⟩, fun j hj => (by cases hj), fun j _ h => (by cases h), fun e he j hj => ⟨.inl (dl e he j hj).1, (dl e he j hj).2⟩, fun e he j hj => (by cases hj)⟩
  obtain ⟨i0, hi, hz0, hz1, hz2⟩ := info_parts infoBl
  obtain ⟨i1, hj, hy0, hy1, hy2⟩ := info_parts infoRow
  have K0 := Lib.hid k0
  have DL := Lib.hid dl
  clear k0 q1 g0 hq oB oW hBW hes dl ol
  go_enter Tryz.func24, Tryz.ntmps24
  go_wp2
  clear x6 f6
  go_loopw [4, 5] (fun vs is wr => ∃ (k : Nat) (va : Option Addr) (vc : Nat), is = .int .i64 (k : Int) ∧ vs = .slice va k vc ∧ k ≤ xs.length ∧ Hid (KB w B bb ((n : Int) + 1) (Value.slice la xs.length lc).ownBlock es VB VW (es.map (·.L)) (es.map (·.O)) (.slice la xs.length lc) (notL xs k ++ xs.drop k) (.slice va k vc) (notL xs k) wr)) (fun _ is _ => xs.length - (intOf is).toNat)
  case atStart => exact ⟨0, none, 0, rfl, rfl, Nat.zero_le _, K0⟩
  case round =>
    clear K0
    obtain ⟨k, va, vc, rfl, rfl, hk, HK⟩ := hrel
    obtain ⟨Wa, hWa⟩ : ∃ W, W = wr := ⟨_, rfl⟩
    subst hWa
    by_cases hlt : k < xs.length
    · have ol := HK.out.ol
      have hY : (notL xs k ++ xs.drop k).length = xs.length := by rw [List.length_append, notL_len xs k hk, List.length_drop]; omega
      unfold OwnB at ol
      rw [hY] at ol
      obtain ⟨g, cap, cs, hv, hBg, hc⟩ := own_form ol (by omega)
      cases hv
      obtain ⟨x, hxk⟩ : ∃ x, xs[k]? = some x := ⟨_, List.getElem?_eq_getElem hlt⟩
      have hsp : (notL xs k ++ xs.drop k).map Value.bool = (notL xs k).map Value.bool ++ [.bool x] ++ (xs.drop (k + 1)).map Value.bool := by
        rw [List.drop_eq_getElem_cons hlt, (List.getElem?_eq_some_iff.1 hxk).2]
        simp
      rw [hsp] at ol
      have hA : ((notL xs k).map Value.bool).length = k := by rw [List.length_map, notL_len xs k hk]
      have c0 := ol.cellAt k (by omega)
      rw [List.append_assoc, List.getElem?_append_right (by omega), hA, Nat.sub_self] at c0
      simp only [List.cons_append, List.nil_append, List.getElem?_cons_zero] at c0
      have f0 := ol.frozenAt k
      have ol2 := own_mark ol (vs := [.bool (!x)]) rfl
      rw [hA] at ol2
      have gs := grown_setAll' g [.bool (!x)] k Wa Wa (World.grownBy.refl _ _)
      have hnx := notL_next xs k x hxk
      have ol3 : OwnB B (Wa.setCell ⟨g, k, none⟩ (.bool (!x))) (.slice (some ⟨g, 0, none⟩) xs.length lc) (notL xs (k + 1) ++ xs.drop (k + 1)) := by
        unfold OwnB
        rw [show (notL xs (k + 1) ++ xs.drop (k + 1)).length = xs.length by rw [List.length_append, notL_len xs (k + 1) hlt, List.length_drop]; omega, hnx, List.map_append, List.map_append]
        exact ol2
      have kb2 := HK.out.setl rfl (fun e he => DL.out e he g rfl) gs ol3
      have hvx := notL_len xs k hk
      have ik0 : (0 : Int) ≤ (k : Int) := by omega
      have ik1 : (k : Int) < (xs.length : Int) := by omega
      obtain ⟨vx, hvxe⟩ : ∃ v, notL xs k = v := ⟨_, rfl⟩
      rw [hvxe] at hvx
      have ov : (Wa.setCell ⟨g, k, none⟩ (.bool (!x))).ownsRow B 4 1 (.slice va k vc) k (vx.map Value.bool) := by
        have := kb2.ov
        unfold OwnB at this
        rw [hvxe, hvx] at this
        exact this
      have sB : B ≤ Wa.heap.size := Nat.le_trans HK.out.hBw HK.out.bw.size
      have HX := Lib.hid (And.intro kb2 (And.intro hvx (And.intro hvxe hnx)))
      clear kb2 ol2 ol3 gs ol hA hsp hc hY hnx hvx hvxe HK hxk
      go_wp2_with (at_builtin; refine wpList_append_keeps _ rfl _ _ 60 rfl B 4 i0 (.bool false) 1 1 Tryz.underlying60 hi hz0 hz1 hz2 rfl (by decide) _ _ _ rfl (ov.alloc _) ⟨Wa.heap.size, 0, none⟩ 1 [.bool (!x)] rfl rfl (newCellsAt _ _ _ _ (set_size _ _ _)) (fun x hx => by simp at hx; rcases hx with rfl; rfl) (by unfold maxLen; omega) (by omega) (by simp [World.setCell]; omega) ?_; intro g1 k1 w2 o1 al1; refine Hid.out ?_)
      have kb3 := HX.out.1.pushv ((Below.refl _ _).alloc (Nat.le_refl _) (.cells #[.bool (!x)] 4)) (g := g1) (cap := k1) (y := !x) (w1 := w2) (by rw [HX.out.2.2.1, HX.out.2.1]; exact o1) (by rw [HX.out.2.2.1, HX.out.2.1]; exact al1)
      rw [← HX.out.2.2.2] at kb3
      have kb4 : KB w B bb ((n : Int) + 1) (Value.slice (some ⟨g, 0, none⟩) xs.length lc).ownBlock es VB VW (es.map (·.L)) (es.map (·.O)) (.slice (some ⟨g, 0, none⟩) xs.length lc) (notL xs (k + 1) ++ xs.drop (k + 1)) (.slice (some ⟨g1, 0, none⟩) (k + 1) k1) (notL xs (k + 1)) w2 := by
        rw [notL_len xs k hk] at kb3
        exact kb3
      have HH := Lib.hid kb4
      clear kb3 kb4 HX ov o1 al1 c0 f0
      refine Lib.hid ?_
      go_wp2
      exact ⟨⟨k + 1, some ⟨g1, 0, none⟩, k1, by go_num, rfl, by omega, HH⟩, by simp [intOf]; omega⟩
    · have hke : k = xs.length := by omega
      subst hke
      have hge : ¬ ((xs.length : Int) < (xs.length : Int)) := by omega
      obtain ⟨ys, hys⟩ : ∃ y, notL xs xs.length = y := ⟨_, rfl⟩
      have hyl : ys.length = xs.length := by rw [← hys]; exact notL_len xs _ (Nat.le_refl _)
      have hK := HK.out
      rw [List.drop_length, List.append_nil, hys] at hK
      obtain ⟨m0, hm0⟩ : ∃ m, xs.length = m := ⟨_, rfl⟩
      have HK2 : Hid (KB w B bb ((n : Int) + 1) (Value.slice la xs.length lc).ownBlock es VB VW (es.map (·.L)) (es.map (·.O)) (.slice la xs.length lc) ys (.slice va xs.length vc) ys Wa) := Lib.hid hK
      have HY := Lib.hid hyl
      clear HK hK hys DL hyl hm0
      go_wp2
      go_loopw [1, 4, 6] (fun ls vs is wr => ∃ (i m : Nat) (new : List EnB) (VB VW : Value) (ys : List Bool) (la2 va : Option Addr) (lc2 vc : Nat), is = .int .i64 (i : Int) ∧ ls = .slice la2 m lc2 ∧ vs = .slice va m vc ∧ i ≤ 4 ∧ m = xs.length + i ∧ Hid (ys.length = m) ∧ Hid (new.length = i) ∧ Hid (KB w B bb ((n : Int) + 1) (Value.slice la xs.length lc).ownBlock (es ++ new) VB VW ((es ++ new).map (·.L)) ((es ++ new).map (·.O)) (.slice la2 m lc2) ys (.slice va m vc) ys wr) ∧ Hid (∀ e ∈ new, e.xs.length ≤ 2004 ∧ (∀ j, e.L.ownBlock = some j → some j = (Value.slice la xs.length lc).ownBlock ∨ w.heap.size ≤ j) ∧ (∀ j, e.O.ownBlock = some j → w.heap.size ≤ j))) (fun _ _ is _ => 4 - (intOf is).toNat)
      case atStart => exact ⟨0, xs.length, [], VB, VW, ys, la, va, lc, vc, rfl, rfl, rfl, by omega, rfl, HY, Lib.hid rfl, Lib.hid (by simpa using HK2.out), Lib.hid (fun e he => by cases he)⟩
      case round =>
        clear HK2 HY
        obtain ⟨i, m, new, VB, VW, ys, la2, va, lc2, vc, rfl, rfl, rfl, hi4, hm, HY, HN, HK, HC⟩ := hrel
        obtain ⟨Wb, hWb⟩ : ∃ W, W = wr := ⟨_, rfl⟩
        subst hWb
        by_cases hlt : i < 4
        · have ci : (i : Int) < 4 := by omega
          have hm4 : m ≤ 2003 := by omega
          have HMm := Lib.hid hm
          clear hm
          have mk := run_make (P := Tryz.prog) Wb 60 4 i0 (.bool false) Tryz.underlying60 hi hz0 .i64 .i64 (m : Int) (m : Int) (by omega) (Int.le_refl _) (by rw [hz2]; omega) (by omega)
          rw [hz1, Int.toNat_natCast, made_bl] at mk
          obtain ⟨MB, hMB⟩ : ∃ M, ((List.replicate m false).map Value.bool).toArray = M := ⟨_, rfl⟩
          have sMB : MB.size = m := by rw [← hMB]; simp
          rw [hMB] at mk
          clear hMB
          have hov : RowIs Wb (.slice va m vc) m (ys.map Value.bool) := by
            have := HK.out.ov
            unfold OwnB at this
            rw [HY.out] at this
            exact rowOfOwn this
          have HV := Lib.hid hov
          have lys : Hid ((ys.map Value.bool).length = m) := Lib.hid (by rw [List.length_map, HY.out])
          clear hov
          go_wp2_with fail
          refine upon_copyN _ 60 60 _ 4 1 Wb.heap.size m m MB 4 _ m (ys.map Value.bool) Tryz.underlying60 sizeBool (allocAt _ _) (HV.out.on ((Below.refl _ _).alloc (Nat.le_refl _) _)) (by rw [lys.out, Nat.mul_one]) (Nat.le_refl _) (by rw [lys.out, sMB]; exact Nat.le_refl _) (bools_one ys) ?_
          intro w3 hg3 ho3 hb3
          have hb03 : Below Wb.heap.size Wb w3 := ((Below.refl _ _).alloc (Nat.le_refl _) _).trans hb3
          have sB : B ≤ Wb.heap.size := Nat.le_trans HK.out.hBw HK.out.bw.size
          have own : OwnB B w3 (.slice (some ⟨Wb.heap.size, 0, none⟩) m m) ys := by
            unfold OwnB
            rw [HY.out]
            refine ⟨by rw [lys.out, Nat.mul_one], .inr ⟨_, _, _, rfl, sB, hg3, Nat.le_refl _, by unfold maxLen; omega, ?_, ?_⟩⟩
            · have e1 := lys.out
              rw [List.length_map] at e1
              simp [e1, sMB]
            · rw [List.toList_toArray, Nat.mul_one]
              have : m = (ys.map Value.bool).length := lys.out.symm
              conv => lhs; rw [this]
              exact List.take_left
          have kbe := (HK.out.below hb03).entry own (fun j hj => by
            cases hj
            exact ⟨fun h => by have := (HK.out.ol.lt _ h).2; simp only at this; omega, fun h => by have := (HK.out.ov.lt _ h).2; simp only at this; omega⟩)
          obtain ⟨LB, hLB⟩ : ∃ L, (es ++ new).map (·.L) = L := ⟨_, rfl⟩
          obtain ⟨LW, hLW⟩ : ∃ L, (es ++ new).map (·.O) = L := ⟨_, rfl⟩
          obtain ⟨p, hp⟩ : ∃ p, es.length + i = p := ⟨_, rfl⟩
          have pB : LB.length = p := by rw [← hLB, List.length_map, List.length_append, HN.out, hp]
          have pW : LW.length = p := by rw [← hLW, List.length_map, List.length_append, HN.out, hp]
          have hp4 : p ≤ 1000004 := by omega
          rw [hLB, hLW] at kbe
          have hnw : ∀ j, (Value.slice (some ⟨Wb.heap.size, 0, none⟩) m m).ownBlock = some j → w.heap.size ≤ j := fun j hj => by cases hj; exact HK.out.bw.size
          have hlw := HK.out.hll
          have HP := Lib.hid (And.intro pB pW)
          have HL := Lib.hid (And.intro hLB (And.intro hLW (And.intro hlw hnw)))
          have oB : w3.ownsRow B 60 1 VB p LB := pB ▸ kbe.oB
          have c3 := cellsAt kbe.hb 3
          simp only [List.getElem?_toArray, List.getElem?_cons_zero, List.getElem?_cons_succ] at c3
          have sW3 : B ≤ w3.heap.size := Nat.le_trans sB hb03.size
          clear hLB hLW pB pW hp hg3 ho3 hb3 hb03 own mk sMB HV lys HK hlw hnw
          go_wp2_with (at_builtin; refine wpList_append_keeps _ rfl _ _ 54 rfl B 60 i1 (.slice none 0 0) 1 24 Tryz.underlying54 hj hy0 hy1 hy2 rfl (by decide) _ _ _ rfl (oB.alloc _) ⟨w3.heap.size, 0, none⟩ 1 [.slice la2 m lc2] rfl rfl (newCellsAt _ _ _ _ rfl) (fun x hx => by simp at hx; rcases hx with rfl; rfl) (by unfold maxLen; omega) (by omega) (by simp; omega) ?_; intro g1 k1 w4 o1 al1; refine Hid.out ?_)
          obtain ⟨b1, kb1⟩ := kbe.pushB ((Below.refl _ _).alloc (Nat.le_refl _) _) (by rw [HP.out.1]; exact o1) (by rw [HP.out.1]; exact al1)
          rw [HP.out.1] at kb1
          have sW4 : B ≤ w4.heap.size := by
            rcases al1 with ⟨_, h⟩ | ⟨_, h⟩
            · exact Nat.le_trans sW3 (Nat.le_trans (by simp) h.size)
            · exact Nat.le_trans sW3 (Nat.le_trans (by simp) h.size)
          have oW : (w4.setCell ⟨bb, 3, none⟩ (.slice (some ⟨g1, 0, none⟩) (p + 1) k1)).ownsRow B 60 1 VW p LW := HP.out.2 ▸ kb1.oW
          clear o1 al1 c3 kbe oB
          have c3 := cellsAt b1 3
          have f3 := frozenAt b1 3
          have c4 := cellsAt b1 4
          simp only [List.getElem?_toArray, List.getElem?_cons_zero, List.getElem?_cons_succ] at c3 c4
          clear b1
          refine Lib.hid ?_
          go_wp2_with (at_builtin; refine wpList_append_keeps _ rfl _ _ 54 rfl B 60 i1 (.slice none 0 0) 1 24 Tryz.underlying54 hj hy0 hy1 hy2 rfl (by decide) _ _ _ rfl (oW.alloc _) ⟨w4.heap.size, 0, none⟩ 1 [.slice (some ⟨Wb.heap.size, 0, none⟩) m m] rfl rfl (newCellsAt _ _ _ _ (set_size _ _ _)) (fun x hx => by simp at hx; rcases hx with rfl; rfl) (by unfold maxLen; omega) (by omega) (by simp [World.setCell]; omega) ?_; intro g2 k2 w5 o2 al2; refine Hid.out ?_)
          obtain ⟨b2, kb2⟩ := kb1.pushW ((Below.refl _ _).alloc (Nat.le_refl _) _) (by rw [HP.out.2]; exact o2) (by rw [HP.out.2]; exact al2)
          rw [HP.out.2] at kb2
          have sW5 : B ≤ w5.heap.size := by
            rcases al2 with ⟨_, h⟩ | ⟨_, h⟩
            · exact Nat.le_trans sW4 (Nat.le_trans (by simp [World.setCell]) h.size)
            · exact Nat.le_trans sW4 (Nat.le_trans (by simp [World.setCell]) h.size)
          clear o2 al2 c3 c4 f3 kb1 oW
          have c4 := cellsAt b2 4
          have f4 := frozenAt b2 4
          have c6 := cellsAt b2 6
          simp only [List.getElem?_toArray, List.getElem?_cons_zero, List.getElem?_cons_succ] at c4 c6
          clear b2
          have ol : (w5.setCell ⟨bb, 4, none⟩ (.slice (some ⟨g2, 0, none⟩) (p + 1) k2)).ownsRow B 4 1 (.slice la2 m lc2) m (ys.map Value.bool) := by
            have := kb2.ol
            unfold OwnB at this
            rw [HY.out] at this
            exact this
          have w2 := wrapL ((n : Int) + 1 + (i : Int)) (by omega) (by omega)
          have sy := HY.out
          have HK2 := Lib.hid kb2
          clear kb2 sy
          refine Lib.hid ?_
          go_wp2_with (at_builtin; refine wpList_append_keeps _ rfl _ _ 60 rfl B 4 i0 (.bool false) 1 1 Tryz.underlying60 hi hz0 hz1 hz2 rfl (by decide) _ _ _ rfl (ol.alloc _) ⟨w5.heap.size, 0, none⟩ 1 [.bool (((n : Int) + 1 + (i : Int)) % 2 == 0)] rfl rfl (newCellsAt _ _ _ _ (set_size _ _ _)) (fun x hx => by simp at hx; rcases hx with rfl; rfl) (by unfold maxLen; omega) (by omega) (by simp [World.setCell]; omega) ?_; intro g3 k3 w6 o3 al3; refine Hid.out ?_)
          have kb3 := HK2.out.pushl ((Below.refl _ _).alloc (Nat.le_refl _) (.cells #[.bool (((n : Int) + 1 + (i : Int)) % 2 == 0)] 4)) (g := g3) (cap := k3) (y := (((n : Int) + 1 + (i : Int)) % 2 == 0)) (w1 := w6) (by rw [HY.out]; exact o3) (by rw [HY.out]; exact al3)
          have sW6 : B ≤ w6.heap.size := by
            rcases al3 with ⟨_, h⟩ | ⟨_, h⟩
            · exact Nat.le_trans sW5 (Nat.le_trans (by simp [World.setCell]) h.size)
            · exact Nat.le_trans sW5 (Nat.le_trans (by simp [World.setCell]) h.size)
          clear o3 al3 c4 f4 c6 HK2 ol
          have ov : w6.ownsRow B 4 1 (.slice va m vc) m (ys.map Value.bool) := by
            have := kb3.ov
            unfold OwnB at this
            rw [HY.out] at this
            exact this
          have HK3 := Lib.hid kb3
          clear kb3
          refine Lib.hid ?_
          go_wp2_with (at_builtin; refine wpList_append_keeps _ rfl _ _ 60 rfl B 4 i0 (.bool false) 1 1 Tryz.underlying60 hi hz0 hz1 hz2 rfl (by decide) _ _ _ rfl (ov.alloc _) ⟨w6.heap.size, 0, none⟩ 1 [.bool (((n : Int) + 1 + (i : Int)) % 2 == 0)] rfl rfl (newCellsAt _ _ _ _ rfl) (fun x hx => by simp at hx; rcases hx with rfl; rfl) (by unfold maxLen; omega) (by omega) (by simp; omega) ?_; intro g4 k4 w7 o4 al4; refine Hid.out ?_)
          have kb4 := HK3.out.pushv ((Below.refl _ _).alloc (Nat.le_refl _) (.cells #[.bool (((n : Int) + 1 + (i : Int)) % 2 == 0)] 4)) (g := g4) (cap := k4) (y := (((n : Int) + 1 + (i : Int)) % 2 == 0)) (w1 := w7) (by rw [HY.out]; exact o4) (by rw [HY.out]; exact al4)
          clear o4 al4 ov HK3 w2
          obtain ⟨hLB, hLW, hlw, hnw⟩ := HL.out
          have e1 : (es ++ (new ++ [(⟨ys, .slice la2 m lc2, .slice (some ⟨Wb.heap.size, 0, none⟩) m m⟩ : EnB)])).map (·.L) = LB ++ [.slice la2 m lc2] := by rw [← hLB]; simp
          have e2 : (es ++ (new ++ [(⟨ys, .slice la2 m lc2, .slice (some ⟨Wb.heap.size, 0, none⟩) m m⟩ : EnB)])).map (·.O) = LW ++ [.slice (some ⟨Wb.heap.size, 0, none⟩) m m] := by rw [← hLW]; simp
          rw [List.append_assoc, ← e1, ← e2, HY.out] at kb4
          have hl' : (new ++ [(⟨ys, .slice la2 m lc2, .slice (some ⟨Wb.heap.size, 0, none⟩) m m⟩ : EnB)]).length = i + 1 := by rw [List.length_append, HN.out]; rfl
          have hy' : (ys ++ [(((n : Int) + 1 + (i : Int)) % 2 == 0)]).length = m + 1 := by rw [List.length_append, HY.out]; rfl
          have hc' : ∀ e ∈ new ++ [(⟨ys, .slice la2 m lc2, .slice (some ⟨Wb.heap.size, 0, none⟩) m m⟩ : EnB)], e.xs.length ≤ 2004 ∧ (∀ j, e.L.ownBlock = some j → some j = (Value.slice la xs.length lc).ownBlock ∨ w.heap.size ≤ j) ∧ (∀ j, e.O.ownBlock = some j → w.heap.size ≤ j) := by
            intro e he
            rcases List.mem_append.1 he with he | he
            · exact HC.out e he
            · rw [List.mem_singleton.1 he]
              exact ⟨by show ys.length ≤ 2004; rw [HY.out]; omega, fun j hj => (hlw j hj).elim (fun h => .inl h.1) .inr, hnw⟩
          have HH := Lib.hid (And.intro hl' (And.intro hy' (And.intro kb4 hc')))
          clear hLB hLW hlw hnw e1 e2 kb4 hl' hy' hc' HC HN HY HL
          refine Lib.hid ?_
          go_wp2
          exact ⟨⟨i + 1, m + 1, _, _, _, _, _, _, _, _, by go_num, rfl, rfl, by omega, by have := HMm.out; omega, Lib.hid HH.out.2.1, Lib.hid HH.out.1, Lib.hid HH.out.2.2.1, Lib.hid HH.out.2.2.2⟩, by simp [intOf]; omega⟩
        · have hie : i = 4 := by omega
          subst hie
          have hK := HK.out
          have b1 : BookB B bb (es ++ new) (n + 1) Wb := ⟨hB, VB, VW, hK.hb, by simpa using hK.oB, by simpa using hK.oW, hK.hBW, hK.hes⟩
          have HH := Lib.hid (And.intro hK.bw (And.intro hK.fr b1))
          clear hK b1 HK
          go_wp2
          go_end0
          exact ⟨rfl, HH.out.1, HH.out.2.1, new, HN.out, HH.out.2.2, HC.out⟩
end Go.Proofs.YteibjmlimcpaoaaGreatDoor.V
