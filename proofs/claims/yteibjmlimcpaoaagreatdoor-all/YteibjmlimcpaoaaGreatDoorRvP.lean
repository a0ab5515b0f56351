/-
  The document's own side: what visorref.allNames answers: the names of a table, in new memory.
-/
import Derived.Test.YteibjmlimcpaoaaGreatDoorRb
import Derived.Test.YteibjmlimcpaoaaGreatDoorWe
import Derived.Test.YteibjmlimcpaoaaGreatDoorTb
import Derived.Test.YteibjmlimcpaoaaGreatDoorEa
import Derived.Deep.RegionHeld3
set_option linter.unusedVariables false
set_option linter.unusedSimpArgs false
namespace Go.Proofs.YteibjmlimcpaoaaGreatDoor.V
open Go.RowKit Go.Sort
open Go.Proofs.YteibjmlimcpaoaaGreatDoor.W (at_below at_alloc new_at below_alloc cellsAt strV PolIs pv RowIs own_form own_slice)

theorem set_other {w : World} {k i k2 : Nat} {v : Value} {cs : Array Value} {T : TypeId} {fz : Nat × Nat} (h : w.heap[k2]? = some (.cells cs T fz)) (ne : k2 ≠ k) : (w.setCell ⟨k, i, none⟩ v).heap[k2]? = some (.cells cs T fz) := (Below.heap_setCell _ _ _ _ ne).trans h
set_option maxRecDepth 100000 in
set_option maxHeartbeats 4000000 in
theorem allNamesV (P : Pol) (T I : Value) (l : List UInt8) (w : World) (hp : PolIs P T I w) (h8 : P.ids.length ≤ 8) (hl : l.length ≤ 2000) (h6 : 6 ≤ l.length) (n : Nat) (hn : num2 l 2 = n) (hnl : 6 + 12 * n ≤ l.length) :
    Calls Tryz.prog 40 #[pv T I P.text, strV l] w fun e w' => ∃ v, e = .returned v ∧ w'.ownsRow w.heap.size 72 7 v n (ncells (namesL P l)) ∧ Below w.heap.size w w' := by
  obtain ⟨i0, hi, hz0, hz1, hz2⟩ := info_parts infoN
  obtain ⟨ta, tc, hTe, _⟩ := id hp.tags
  obtain ⟨ia, ic, hIe, _⟩ := id hp.ids
  subst hTe hIe
  obtain ⟨W, hW⟩ : ∃ W, w.alloc (.cells #[.slice ta P.tags.length tc, .slice ia P.ids.length ic, .int .i64 P.text] 25) = W := ⟨_, rfl⟩
  have hbW : Below w.heap.size w W := by rw [← hW]; exact below_alloc _ _
  have n0 : W.heap[w.heap.size]? = some (.cells #[.slice ta P.tags.length tc, .slice ia P.ids.length ic, .int .i64 P.text] 25 (0, 0)) := by rw [← hW]; exact new_at _ _
  have HW := Lib.hid (And.intro n0 (And.intro hbW (hp.on hbW)))
  have N2 := Lib.hid (fun (w : World) (A : Int) (hA : A = ((2 : Nat) : Int)) => num2V l (by omega) w 2 A (n : Int) hA (by omega) (by rw [hn]))
  have hnames : namesL P l = (List.range n).map (toldL P l) := by unfold namesL; rw [hn]
  rw [hnames]
  unfold pv strV
  clear n0 hbW hp hn hnames
  have hn200 : n ≤ 200 := by omega
  go_enter Tryz.func40, Tryz.ntmps40
  go_wp2
  go_loopw [5, 6] (fun os is wr => ∃ (k : Nat), is = .int .i64 (k : Int) ∧ k ≤ n ∧ Below W.heap.size W wr ∧ wr.ownsRow W.heap.size 72 7 os k (ncells ((List.range k).map (toldL P l)))) (fun _ is _ => n - (intOf is).toNat)
  case atStart => exact ⟨0, rfl, Nat.zero_le _, Below.refl _ _, World.ownsRow_nil _ _ _ _⟩
  case round =>
    obtain ⟨k, rfl, hk, hbw, hown⟩ := hrel
    obtain ⟨oa, oc, rfl⟩ := own_slice hown
    by_cases hk1 : k < n
    · obtain ⟨pl, hpl⟩ : ∃ x : Nat, num2 l (6 + 12 * k) = x := ⟨_, rfl⟩
      obtain ⟨en, hen⟩ : ∃ x : Nat, num2 l (6 + 12 * k + 2) = x := ⟨_, rfl⟩
      obtain ⟨la, hla⟩ : ∃ x : Nat, num2 l (6 + 12 * k + 4) = x := ⟨_, rfl⟩
      obtain ⟨id, hid⟩ : ∃ x : Nat, num2 l (6 + 12 * k + 6) = x := ⟨_, rfl⟩
      obtain ⟨f, hf⟩ : ∃ f, num2 l 4 + num2 l (6 + 12 * k + 10) = f := ⟨_, rfl⟩
      obtain ⟨t, ht⟩ : ∃ t, f + num2 l (6 + 12 * k + 8) = t := ⟨_, rfl⟩
      obtain ⟨lies, hlies⟩ : ∃ q, decide (t ≤ l.length) = q := ⟨_, rfl⟩
      obtain ⟨hd, hhd⟩ : ∃ q, P.ids.contains (id : Int) = q := ⟨_, rfl⟩
      have hft : f ≤ t := by omega
      have bft : t < 262144 := by
        have := num2_lt l 4
        have := num2_lt l (6 + 12 * k + 10)
        have := num2_lt l (6 + 12 * k + 8)
        omega
      have bpl : pl < 65536 := hpl ▸ num2_lt _ _
      have ben : en < 65536 := hen ▸ num2_lt _ _
      have bla : la < 65536 := hla ▸ num2_lt _ _
      have bid : id < 65536 := hid ▸ num2_lt _ _
      have A0 := Lib.hid (fun (w : World) (A : Int) (hA : A = ((6 + 12 * k : Nat) : Int)) => num2V l (by omega) w (6 + 12 * k) A (pl : Int) hA (by omega) (by rw [hpl]))
      have A2 := Lib.hid (fun (w : World) (A : Int) (hA : A = ((6 + 12 * k + 2 : Nat) : Int)) => num2V l (by omega) w (6 + 12 * k + 2) A (en : Int) hA (by omega) (by rw [hen]))
      have A4 := Lib.hid (fun (w : World) (A : Int) (hA : A = ((6 + 12 * k + 4 : Nat) : Int)) => num2V l (by omega) w (6 + 12 * k + 4) A (la : Int) hA (by omega) (by rw [hla]))
      have A6 := Lib.hid (fun (w : World) (A : Int) (hA : A = ((6 + 12 * k + 6 : Nat) : Int)) => num2V l (by omega) w (6 + 12 * k + 6) A (id : Int) hA (by omega) (by rw [hid]))
      have PL := Lib.hid (fun (w : World) => placeV l k w (by omega) hl f t hf ht lies hlies)
      have htold : toldL P l k = if hd = true then ⟨pl, en, la, id, 4, 0, ⟨#[]⟩⟩ else if lies = false then ⟨pl, en, la, id, 2, 0, ⟨#[]⟩⟩ else ⟨pl, en, la, id, (textOf (pl : Int) (en : Int) ((l.drop f).take (t - f)) P.text).2.2, (textOf (pl : Int) (en : Int) ((l.drop f).take (t - f)) P.text).2.1, ⟨(textOf (pl : Int) (en : Int) ((l.drop f).take (t - f)) P.text).1.toArray⟩⟩ := by
        unfold toldL nameL
        simp only [hpl, hen, hla, hid, hf, hhd, ht]
        have e : num2 l (6 + 12 * k + 8) = t - f := by omega
        rw [e]
        cases hd with
        | true => simp
        | false =>
          simp only [Bool.false_eq_true, if_false]
          by_cases hle : t ≤ l.length
          · have : lies = true := by rw [← hlies]; exact decide_eq_true hle
            rw [this, if_pos hle]
            simp
          · have : lies = false := by rw [← hlies]; exact decide_eq_false hle
            rw [this, if_neg hle]
            simp
      have hrange : ncells ((List.range (k + 1)).map (toldL P l)) = ncells ((List.range k).map (toldL P l)) ++ ncells [toldL P l k] := by
        rw [List.range_succ, List.map_append, ncells_append]
        rfl
      have HTO := Lib.hid htold
      have HLI := Lib.hid hlies
      have HHD : Hid (P.ids.contains ((num2 l (6 + 12 * k + 6) : Nat) : Int) = hd) := by show _ = _; rw [hid]; exact hhd
      obtain ⟨told, htd⟩ : ∃ x, toldL P l k = x := ⟨_, rfl⟩
      rw [htd] at HTO hrange
      clear htd
      obtain ⟨C2, hC2⟩ : ∃ C, ncells ((List.range (k + 1)).map (toldL P l)) = C := ⟨_, rfl⟩
      have HC := Lib.hid hC2
      generalize ncells ((List.range k).map (toldL P l)) = C1 at *
      rw [hC2] at hrange
      have HR := Lib.hid hrange
      clear hC2 hrange htold hlies hhd hpl hen hla hid hf ht
      have ik : (k : Int) < (n : Int) := by omega
      have k200 : k < 200 := by omega
      obtain ⟨Wo, hWo⟩ : ∃ W, W = wr := ⟨_, rfl⟩
      subst hWo
      unfold strV at PL
      obtain ⟨V1, hV1⟩ : ∃ W, Wo.alloc (.cells #[.int .i64 (pl : Int), .int .i64 (en : Int), .int .i64 (la : Int), .int .i64 (id : Int), .int .i64 0, .int .i64 0, .string ⟨#[]⟩] 72) = W := ⟨_, rfl⟩
      have m1 : V1.heap[Wo.heap.size]? = some (.cells #[.int .i64 (pl : Int), .int .i64 (en : Int), .int .i64 (la : Int), .int .i64 (id : Int), .int .i64 0, .int .i64 0, .string ⟨#[]⟩] 72 (0, 0)) := by rw [← hV1]; exact new_at _ _
      have b1 : Below Wo.heap.size Wo V1 := by rw [← hV1]; exact below_alloc _ _
      have bW1 : Below W.heap.size W V1 := hbw.trans (b1.mono hbw.size)
      have e0 := at_below HW.out.1 bW1
      have p0 := cellsAt e0 0
      have p1 := cellsAt e0 1
      have p2 := cellsAt e0 2
      simp only [List.getElem?_toArray, List.getElem?_cons_zero, List.getElem?_cons_succ] at p0 p1 p2
      have HE := Lib.hid (heldV P (.slice ta P.tags.length tc) (.slice ia P.ids.length ic) l k V1 (HW.out.2.2.on bW1) h8 (by omega) hl hd HHD.out)
      unfold pv strV at HE
      have H1 := Lib.hid (And.intro m1 (And.intro b1 bW1))
      clear m1 b1 bW1 e0
      subst hV1
      go_wp2_with (first
        | (go_at_call 59; (first | refine (N2.out _ _ (by omega)).mono ?_ | refine (A0.out _ _ (by omega)).mono ?_ | refine (A2.out _ _ (by omega)).mono ?_ | refine (A4.out _ _ (by omega)).mono ?_ | refine (A6.out _ _ (by omega)).mono ?_); rintro e w1 ⟨rfl, hw1⟩; have hw1 := hw1.symm; subst hw1)
        | (go_at_call 61; refine HE.out.mono ?_; rintro e w2 ⟨rfl, hb2⟩)
        | (go_at_call 62; refine (PL.out _).mono ?_; rintro e w3 ⟨rfl, hb3⟩; refine Hid.out ?_))
      -- behind place
      have b13 := hb2.trans (hb3.mono hb2.size)
      have m3 := at_below H1.out.1 b13
      have bo3 := H1.out.2.1.trans (b13.mono H1.out.2.1.size)
      have bW3 := H1.out.2.2.trans (b13.mono H1.out.2.2.size)
      clear b13 hb2 hb3 HE PL p0 p1 p2
      obtain ⟨V4, hV4⟩ : ∃ W, w3.alloc (.cells #[.int .i64 (f : Int), .int .i64 (t : Int), .bool lies] 118) = W := ⟨_, rfl⟩
      have m4 : V4.heap[Wo.heap.size]? = some (.cells #[.int .i64 (pl : Int), .int .i64 (en : Int), .int .i64 (la : Int), .int .i64 (id : Int), .int .i64 0, .int .i64 0, .string ⟨#[]⟩] 72 (0, 0)) := by rw [← hV4]; exact at_alloc m3
      have r4 : V4.heap[w3.heap.size]? = some (.cells #[.int .i64 (f : Int), .int .i64 (t : Int), .bool lies] 118 (0, 0)) := by rw [← hV4]; exact new_at _ _
      have bo4 : Below Wo.heap.size Wo V4 := by rw [← hV4]; exact bo3.alloc bo3.size _
      have bW4 : Below W.heap.size W V4 := by rw [← hV4]; exact bW3.alloc bW3.size _
      have e4 := at_below HW.out.1 bW4
      have sz3 : Wo.heap.size < w3.heap.size := (Array.getElem?_eq_some_iff.1 m3).1
      have szo := hbw.size
      have szw : w.heap.size < W.heap.size := (Array.getElem?_eq_some_iff.1 HW.out.1).1
      have y0 := cellsAt m4 0
      have y1 := cellsAt m4 1
      have y2 := cellsAt m4 2
      have y3 := cellsAt m4 3
      have y4 := cellsAt m4 4
      have y5 := cellsAt m4 5
      have y6 := cellsAt m4 6
      have f4 := frozenAt m4 4
      have f5 := frozenAt m4 5
      have f6 := frozenAt m4 6
      have z0 := cellsAt r4 0
      have z1 := cellsAt r4 1
      have z2 := cellsAt r4 2
      have p2 := cellsAt e4 2
      simp only [List.getElem?_toArray, List.getElem?_cons_zero, List.getElem?_cons_succ] at y0 y1 y2 y3 y4 y5 y6 z0 z1 z2 p2
      have H4 := Lib.hid (And.intro m4 (And.intro bo4 (And.intro e4 r4)))
      have HO := Lib.hid hown
      clear m3 bo3 bW3 m4 r4 bo4 bW4 e4 H1 hown
      refine Lib.hid ?_
      cases hd with
      | true =>
        subst hV4
        have hto := HTO.out
        rw [if_pos rfl] at hto
        have HT2 : Hid (ncells [told] = [.int .i64 (pl : Int), .int .i64 (en : Int), .int .i64 (la : Int), .int .i64 (id : Int), .int .i64 4, .int .i64 0, .string ⟨#[]⟩]) := by show _ = _; rw [hto]; rfl
        clear hto HTO
        obtain ⟨Wz, hWz⟩ : ∃ W, (w3.alloc (.cells #[.int .i64 (f : Int), .int .i64 (t : Int), .bool lies] 118)).setCell ⟨Wo.heap.size, 4, none⟩ (.int .i64 4) = W := ⟨_, rfl⟩
        have bz : Below Wo.heap.size Wo Wz := by rw [← hWz]; exact H4.out.2.1.setCell (p := ⟨Wo.heap.size, 4, none⟩) (Nat.le_refl _) _
        have nz : Wz.heap[Wo.heap.size]? = some (.cells #[.int .i64 (pl : Int), .int .i64 (en : Int), .int .i64 (la : Int), .int .i64 (id : Int), .int .i64 4, .int .i64 0, .string ⟨#[]⟩] 72 (0, 0)) := by rw [← hWz]; exact Go.Proofs.YteibjmlimcpaoaaGreatDoor.W.setCell_row (i := 4) H4.out.1 _
        have x0 := cellsAt nz 0
        have x1 := cellsAt nz 1
        have x2 := cellsAt nz 2
        have x3 := cellsAt nz 3
        have x4 := cellsAt nz 4
        have x5 := cellsAt nz 5
        have x6 := cellsAt nz 6
        simp only [List.getElem?_toArray, List.getElem?_cons_zero, List.getElem?_cons_succ] at x0 x1 x2 x3 x4 x5 x6
        clear nz
        have own2 := Go.Proofs.YteibjmlimcpaoaaGreatDoor.W.own_any HO.out bz
        have szy := bz.size
        go_wp2_with (at_builtin; refine wpList_append_own _ rfl _ _ 35 rfl W.heap.size 72 i0 (.agg #[.int .i64 0, .int .i64 0, .int .i64 0, .int .i64 0, .int .i64 0, .int .i64 0, .string ⟨#[]⟩]) 7 64 Tryz.underlying35 hi hz0 hz1 hz2 rfl (by decide) _ _ _ rfl (own2.alloc _) ⟨Wz.heap.size, 0, none⟩ 1 1 [.int .i64 (pl : Int), .int .i64 (en : Int), .int .i64 (la : Int), .int .i64 (id : Int), .int .i64 4, .int .i64 0, .string ⟨#[]⟩] rfl rfl (newCells _ _ _) (fun x hx => by simp at hx; rcases hx with rfl | rfl | rfl | rfl | rfl | rfl | rfl <;> rfl) (by unfold maxLen; omega) (by omega) (by simp; omega) ?_; intro v' w6 hown' hgrow3 hnil3; refine Hid.out ?_)
        have own3 : w6.ownsRow W.heap.size 72 7 v' (k + 1) C2 := by
          rw [HR.out, HT2.out]
          exact hown'
        have b3 : Below W.heap.size W w6 := ((hbw.trans (bz.mono hbw.size)).alloc (by omega) _).grown hgrow3 (by simp; omega) (fun j hj => (own2.lt j hj).1)
        clear hown' hgrow3 hnil3 own2 bz
        refine Lib.hid ?_
        go_wp2
        exact ⟨⟨k + 1, by go_num, by omega, b3, by rw [HC.out]; exact own3⟩, by simp [intOf]; omega⟩
      | false =>
        cases lies with
        | false =>
          subst hV4
          have hto := HTO.out
          rw [if_neg (by simp), if_pos rfl] at hto
          have HT2 : Hid (ncells [told] = [.int .i64 (pl : Int), .int .i64 (en : Int), .int .i64 (la : Int), .int .i64 (id : Int), .int .i64 2, .int .i64 0, .string ⟨#[]⟩]) := by show _ = _; rw [hto]; rfl
          clear hto HTO
          obtain ⟨Wz, hWz⟩ : ∃ W, (w3.alloc (.cells #[.int .i64 (f : Int), .int .i64 (t : Int), .bool false] 118)).setCell ⟨Wo.heap.size, 4, none⟩ (.int .i64 2) = W := ⟨_, rfl⟩
          have bz : Below Wo.heap.size Wo Wz := by rw [← hWz]; exact H4.out.2.1.setCell (p := ⟨Wo.heap.size, 4, none⟩) (Nat.le_refl _) _
          have nz : Wz.heap[Wo.heap.size]? = some (.cells #[.int .i64 (pl : Int), .int .i64 (en : Int), .int .i64 (la : Int), .int .i64 (id : Int), .int .i64 2, .int .i64 0, .string ⟨#[]⟩] 72 (0, 0)) := by rw [← hWz]; exact Go.Proofs.YteibjmlimcpaoaaGreatDoor.W.setCell_row (i := 4) H4.out.1 _
          have x0 := cellsAt nz 0
          have x1 := cellsAt nz 1
          have x2 := cellsAt nz 2
          have x3 := cellsAt nz 3
          have x4 := cellsAt nz 4
          have x5 := cellsAt nz 5
          have x6 := cellsAt nz 6
          simp only [List.getElem?_toArray, List.getElem?_cons_zero, List.getElem?_cons_succ] at x0 x1 x2 x3 x4 x5 x6
          clear nz
          have own2 := Go.Proofs.YteibjmlimcpaoaaGreatDoor.W.own_any HO.out bz
          have szy := bz.size
          go_wp2_with (at_builtin; refine wpList_append_own _ rfl _ _ 35 rfl W.heap.size 72 i0 (.agg #[.int .i64 0, .int .i64 0, .int .i64 0, .int .i64 0, .int .i64 0, .int .i64 0, .string ⟨#[]⟩]) 7 64 Tryz.underlying35 hi hz0 hz1 hz2 rfl (by decide) _ _ _ rfl (own2.alloc _) ⟨Wz.heap.size, 0, none⟩ 1 1 [.int .i64 (pl : Int), .int .i64 (en : Int), .int .i64 (la : Int), .int .i64 (id : Int), .int .i64 2, .int .i64 0, .string ⟨#[]⟩] rfl rfl (newCells _ _ _) (fun x hx => by simp at hx; rcases hx with rfl | rfl | rfl | rfl | rfl | rfl | rfl <;> rfl) (by unfold maxLen; omega) (by omega) (by simp; omega) ?_; intro v' w6 hown' hgrow3 hnil3; refine Hid.out ?_)
          have own3 : w6.ownsRow W.heap.size 72 7 v' (k + 1) C2 := by
            rw [HR.out, HT2.out]
            exact hown'
          have b3 : Below W.heap.size W w6 := ((hbw.trans (bz.mono hbw.size)).alloc (by omega) _).grown hgrow3 (by simp; omega) (fun j hj => (own2.lt j hj).1)
          clear hown' hgrow3 hnil3 own2 bz
          refine Lib.hid ?_
          go_wp2
          exact ⟨⟨k + 1, by go_num, by omega, b3, by rw [HC.out]; exact own3⟩, by simp [intOf]; omega⟩
        | true =>
          have hle : t ≤ l.length := of_decide_eq_true HLI.out
          obtain ⟨X, hX⟩ : ∃ X, ByteArray.mk ((l.drop f).take (t - f)).toArray = X := ⟨_, rfl⟩
          have hszl : (⟨l.toArray⟩ : ByteArray).size = l.length := by show Array.size _ = _; simp
          have hsl : ∀ W : World, (Instr.slice 9 (.string ⟨l.toArray⟩) (some (.int .i64 (f : Int))) (some (.int .i64 (t : Int))) none).run Tryz.prog W = .ok (.string X) W := by
            intro W
            rw [run_slice_string W 9 _ .i64 .i64 _ _ Tryz.underlying9 (by omega) (by omega) (by rw [hszl]; omega)]
            have hc : (ByteArray.mk l.toArray).extract f t = X := by rw [cut_is, hX]
            rw [← hc]
            congr 3
          obtain ⟨r, hr⟩ : ∃ r, textOf (pl : Int) (en : Int) ((l.drop f).take (t - f)) P.text = r := ⟨_, rfl⟩
          have hXl : X.data.toList = (l.drop f).take (t - f) := by rw [← hX]
          have hXs : X.size ≤ 1048576 := by
            rw [← hX]
            show Array.size _ ≤ _
            simp
            omega
          have TX := Lib.hid (fun (w : World) => Go.Proofs.YteibjmlimcpaoaaGreatDoor.T.ref6 (pl : Int) (en : Int) X P.text w r hXs (by rw [hXl]; exact hr))
          obtain ⟨Y, hY⟩ : ∃ Y, ByteArray.mk r.1.toArray = Y := ⟨_, rfl⟩
          rw [hY] at TX
          have hto := HTO.out
          rw [if_neg (by simp), if_neg (by simp), hr, hY] at hto
          have HTO2 := Lib.hid hto
          clear hto hr hY hX hXl hXs HTO hle hszl
          have hne1 : w3.heap.size ≠ Wo.heap.size := by omega
          have hne2 : w.heap.size ≠ Wo.heap.size := by omega
          subst hV4
          obtain ⟨V4, hV4⟩ : ∃ W, W = w3.alloc (.cells #[.int .i64 (f : Int), .int .i64 (t : Int), .bool true] 118) := ⟨_, rfl⟩
          go_upto_region 9 with fail
          rw [← hV4]
          clear y0 y1 y2 y3 y4 y5 y6 f4 f5 f6 z0 z1 z2 p2
          have m4 : V4.heap[Wo.heap.size]? = some (.cells #[.int .i64 (pl : Int), .int .i64 (en : Int), .int .i64 (la : Int), .int .i64 (id : Int), .int .i64 0, .int .i64 0, .string ⟨#[]⟩] 72 (0, 0)) := by rw [hV4]; exact H4.out.1
          have r4 : V4.heap[w3.heap.size]? = some (.cells #[.int .i64 (f : Int), .int .i64 (t : Int), .bool true] 118 (0, 0)) := by rw [hV4]; exact H4.out.2.2.2
          have e4 : V4.heap[w.heap.size]? = some (.cells #[.slice ta P.tags.length tc, .slice ia P.ids.length ic, .int .i64 P.text] 25 (0, 0)) := by rw [hV4]; exact H4.out.2.2.1
          have bo4 : Below Wo.heap.size Wo V4 := by rw [hV4]; exact H4.out.2.1
          clear hV4 H4
          have y0 := cellsAt m4 0
          have y1 := cellsAt m4 1
          have z0 := cellsAt r4 0
          have z1 := cellsAt r4 1
          have p2 := cellsAt e4 2
          simp only [List.getElem?_toArray, List.getElem?_cons_zero, List.getElem?_cons_succ] at y0 y1 z0 z1 p2
          have H4 := Lib.hid (And.intro m4 (And.intro bo4 (And.intro e4 r4)))
          clear m4 r4 e4 bo4
          go_region_held3 (fun w' => w'.cell? ⟨Wo.heap.size, 0, none⟩ = some (.int .i64 (pl : Int)) ∧ w'.cell? ⟨Wo.heap.size, 1, none⟩ = some (.int .i64 (en : Int)) ∧ w'.cell? ⟨w3.heap.size, 0, none⟩ = some (.int .i64 (f : Int)) ∧ w'.cell? ⟨w3.heap.size, 1, none⟩ = some (.int .i64 (t : Int)) ∧ w'.cell? ⟨w.heap.size, 2, none⟩ = some (.int .i64 P.text)) (go_keep) (first | (go_at_call 63; refine (TX.out _).mono ?_; rintro e w5 ⟨rfl, hb5'⟩; have hb5 : Below V4.heap.size V4 w5 := (by first | exact hb5' | exact ((Below.refl _ _).drew).trans hb5'); have m5 := at_below H4.out.1 hb5; have r5 := at_below H4.out.2.2.2 hb5; have e5 := at_below H4.out.2.2.1 hb5; have s0 := cellsAt m5 0; have s1 := cellsAt m5 1; have s4 := cellsAt m5 4; have s5 := cellsAt m5 5; have s6 := cellsAt m5 6; have t0 := cellsAt r5 0; have t1 := cellsAt r5 1; have u2p := cellsAt e5 2; have g4 := frozenAt m5 4; have g5 := frozenAt m5 5; have g6 := frozenAt m5 6; have q6 := Go.Proofs.YteibjmlimcpaoaaGreatDoor.W.setCell_row (i := 6) m5 (.string Y); have q5 := Go.Proofs.YteibjmlimcpaoaaGreatDoor.W.setCell_row (i := 5) q6 (.int .i64 r.2.1); have q4 := Go.Proofs.YteibjmlimcpaoaaGreatDoor.W.setCell_row (i := 4) q5 (.int .i64 r.2.2); have aq60 := cellsAt q6 0; have aq61 := cellsAt q6 1; have aq64 := cellsAt q6 4; have aq65 := cellsAt q6 5; have aq50 := cellsAt q5 0; have aq51 := cellsAt q5 1; have aq54 := cellsAt q5 4; have aq55 := cellsAt q5 5; have aq40 := cellsAt q4 0; have aq41 := cellsAt q4 1; have aq44 := cellsAt q4 4; have aq45 := cellsAt q4 5; have ro6 := set_other (k := Wo.heap.size) (i := 6) (v := (.string Y)) r5 hne1; have eo6 := set_other (k := Wo.heap.size) (i := 6) (v := (.string Y)) e5 hne2; have ta6 := cellsAt ro6 0; have tb6 := cellsAt ro6 1; have tc6 := cellsAt eo6 2; have ro5 := set_other (k := Wo.heap.size) (i := 5) (v := (.int .i64 r.2.1)) ro6 hne1; have eo5 := set_other (k := Wo.heap.size) (i := 5) (v := (.int .i64 r.2.1)) eo6 hne2; have ta5 := cellsAt ro5 0; have tb5 := cellsAt ro5 1; have tc5 := cellsAt eo5 2; have ro4 := set_other (k := Wo.heap.size) (i := 4) (v := (.int .i64 r.2.2)) ro5 hne1; have eo4 := set_other (k := Wo.heap.size) (i := 4) (v := (.int .i64 r.2.2)) eo5 hne2; have ta4 := cellsAt ro4 0; have tb4 := cellsAt ro4 1; have tc4 := cellsAt eo4 2; have h5 := frozenAt q6 5; have h4 := frozenAt q5 4; simp only [List.getElem?_toArray, List.getElem?_cons_zero, List.getElem?_cons_succ, List.setIfInBounds_toArray, List.set_cons_succ, List.set_cons_zero] at s0 s1 s4 s5 s6 t0 t1 u2p aq60 aq61 aq64 aq65 aq50 aq51 aq54 aq55 aq40 aq41 aq44 aq45 ta6 tb6 tc6 ta5 tb5 tc5 ta4 tb4 tc4; clear q6 q5 q4 ro6 eo6 ro5 eo5 ro4 eo4))
          have HT2 : Hid (ncells [told] = [.int .i64 (pl : Int), .int .i64 (en : Int), .int .i64 (la : Int), .int .i64 (id : Int), .int .i64 r.2.2, .int .i64 r.2.1, .string Y]) := by show _ = _; rw [HTO2.out]; rfl
          clear HTO2
          obtain ⟨Wz, hWz⟩ : ∃ W, ((w5.setCell ⟨Wo.heap.size, 6, none⟩ (.string Y)).setCell ⟨Wo.heap.size, 5, none⟩ (.int .i64 r.2.1)).setCell ⟨Wo.heap.size, 4, none⟩ (.int .i64 r.2.2) = W := ⟨_, rfl⟩
          rw [hWz]
          have bz : Below Wo.heap.size Wo Wz := by rw [← hWz]; exact (((H4.out.2.1.trans (hb5.mono H4.out.2.1.size)).setCell (p := ⟨Wo.heap.size, 6, none⟩) (Nat.le_refl _) (.string Y)).setCell (p := ⟨Wo.heap.size, 5, none⟩) (Nat.le_refl _) (.int .i64 r.2.1)).setCell (p := ⟨Wo.heap.size, 4, none⟩) (Nat.le_refl _) (.int .i64 r.2.2)
          have nz : Wz.heap[Wo.heap.size]? = some (.cells #[.int .i64 (pl : Int), .int .i64 (en : Int), .int .i64 (la : Int), .int .i64 (id : Int), .int .i64 r.2.2, .int .i64 r.2.1, .string Y] 72 (0, 0)) := by rw [← hWz]; exact Go.Proofs.YteibjmlimcpaoaaGreatDoor.W.setCell_row (i := 4) (Go.Proofs.YteibjmlimcpaoaaGreatDoor.W.setCell_row (i := 5) (Go.Proofs.YteibjmlimcpaoaaGreatDoor.W.setCell_row (i := 6) m5 _) _) _
          have x0 := cellsAt nz 0
          have x1 := cellsAt nz 1
          have x2 := cellsAt nz 2
          have x3 := cellsAt nz 3
          have x4 := cellsAt nz 4
          have x5 := cellsAt nz 5
          have x6 := cellsAt nz 6
          simp only [List.getElem?_toArray, List.getElem?_cons_zero, List.getElem?_cons_succ] at x0 x1 x2 x3 x4 x5 x6
          clear nz hWz m5 r5 e5 hb5
          have own2 := Go.Proofs.YteibjmlimcpaoaaGreatDoor.W.own_any HO.out bz
          have szy := bz.size
          go_wp2_with (at_builtin; refine wpList_append_own _ rfl _ _ 35 rfl W.heap.size 72 i0 (.agg #[.int .i64 0, .int .i64 0, .int .i64 0, .int .i64 0, .int .i64 0, .int .i64 0, .string ⟨#[]⟩]) 7 64 Tryz.underlying35 hi hz0 hz1 hz2 rfl (by decide) _ _ _ rfl (own2.alloc _) ⟨Wz.heap.size, 0, none⟩ 1 1 [.int .i64 (pl : Int), .int .i64 (en : Int), .int .i64 (la : Int), .int .i64 (id : Int), .int .i64 r.2.2, .int .i64 r.2.1, .string Y] rfl rfl (newCells _ _ _) (fun x hx => by simp at hx; rcases hx with rfl | rfl | rfl | rfl | rfl | rfl | rfl <;> rfl) (by unfold maxLen; omega) (by omega) (by simp; omega) ?_; intro v' w6 hown' hgrow3 hnil3; refine Hid.out ?_)
          have own3 : w6.ownsRow W.heap.size 72 7 v' (k + 1) C2 := by
            rw [HR.out, HT2.out]
            exact hown'
          have b3 : Below W.heap.size W w6 := ((hbw.trans (bz.mono hbw.size)).alloc (by omega) _).grown hgrow3 (by simp; omega) (fun j hj => (own2.lt j hj).1)
          clear hown' hgrow3 hnil3 own2 bz
          refine Lib.hid ?_
          go_wp2
          exact ⟨⟨k + 1, by go_num, by omega, b3, by rw [HC.out]; exact own3⟩, by simp [intOf]; omega⟩
    · have ik : ¬ ((k : Int) < (n : Int)) := by omega
      obtain rfl : k = n := by omega
      have HO := Lib.hid hown
      clear hown
      go_wp2_with (go_at_call 59; refine (N2.out _ _ (by omega)).mono ?_; rintro e w1 ⟨rfl, hw1⟩; have hw1 := hw1.symm; subst hw1)
      go_ret
      exact ⟨_, rfl, Go.Proofs.YteibjmlimcpaoaaGreatDoor.W.own_lower HO.out HW.out.2.1.size, HW.out.2.1.trans (hbw.mono HW.out.2.1.size)⟩
end Go.Proofs.YteibjmlimcpaoaaGreatDoor.V
