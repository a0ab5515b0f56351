/-
  The law All answers true, and leaves alone what lay in memory.
-/
import Derived.Test.YteibjmlimcpaoaaGreatDoorLAlM
set_option linter.unusedVariables false
set_option linter.unusedSimpArgs false
namespace Go.Proofs.YteibjmlimcpaoaaGreatDoor.V
open Go.RowKit Go.Sort
open Go.Proofs.YteibjmlimcpaoaaGreatDoor.W (at_below at_alloc new_at below_alloc PolIs pv strV Gl cell_lt inspectW sinspectW newW RowIs Ok1 ocells ocells_at OkOk)

set_option maxRecDepth 100000 in
set_option maxHeartbeats 60000000 in
theorem allLaw (ts : List Ok1) (V : Value) (w : World) (hn : ts.length ≤ 1466015503658) (hV : RowIs w V ts.length (ocells ts)) (hts : ∀ t ∈ ts, OkOk w t) (hg : Gl w) (htab : w.cell? ⟨7, 15, none⟩ = some (.int .u8 4)) :
    Calls Tryz.prog 8 #[V] w fun e w' => e = .returned (.bool true) ∧ Below w.heap.size w w' := by
  obtain ⟨i0, hi, hz0, hz1, hz2⟩ := info_parts infoSes
  obtain ⟨ao, cap, rfl, _⟩ := id hV
  have HV := Lib.hid hV
  have HT := Lib.hid hts
  have HG := Lib.hid (fun (x : World) (h : Below w.heap.size w x) => hg.on h)
  have HB := Lib.hid (fun (x : World) (h : Below w.heap.size w x) => (h.cell (p := ⟨7, 15, none⟩) (cell_lt htab)).trans htab)
  have CPl := Lib.hid (fun (sp : Addr) (x : World) (h : Below w.heap.size w x) => plainV sp x (HG.out x h) (HB.out x h))
  clear hV hts hg htab
  have CN := Lib.hid (newW w)
  go_enter Tryz.func8, Tryz.ntmps8
  go_wp2_with (go_at_call 10; refine CN.out.mono ?_; rintro e w1 ⟨⟨sp, rfl⟩, hb1⟩; refine Hid.out ?_)
  have C1 := Lib.hid (CPl.out sp w1 hb1)
  refine Lib.hid ?_
  go_wp2_with (go_at_call 9; refine C1.out.mono ?_; rintro e w2 ⟨rfl, hb2⟩; refine Hid.out ?_)
  have b2 := hb1.trans (hb2.mono hb1.size)
  have C2 := Lib.hid (newW w2)
  clear C1 CN CPl hb1 hb2
  refine Lib.hid ?_
  go_wp2_with (go_at_call 10; refine C2.out.mono ?_; rintro e w3 ⟨⟨sp3, rfl⟩, hb3⟩; refine Hid.out ?_)
  have b3 := b2.trans (hb3.mono b2.size)
  clear C2 b2 hb3
  obtain ⟨W4, hW4⟩ : ∃ W, (w3.alloc (.cells #[.pointer (some sp3)] 27)).alloc (.cells #[.slice none 0 0, .slice none 0 0, .slice none 0 0, .slice none 0 0, .slice none 0 0, .slice none 0 0, .int .i64 0] 56) = W := ⟨_, rfl⟩
  have b4 : Below w.heap.size w W4 := by rw [← hW4]; exact (b3.alloc b3.size _).alloc (by have := b3.size; simp; omega) _
  have o4 : W4.ownsRow w.heap.size 27 1 (.slice (some ⟨w3.heap.size, 0, none⟩) 1 1) 1 [.pointer (some sp3)] := by
    rw [← hW4]
    refine own_any ?_ (below_alloc _ _)
    exact ⟨rfl, .inr ⟨w3.heap.size, 1, #[.pointer (some sp3)], rfl, b3.size, new_at _ _, Nat.le_refl _, by decide, rfl, rfl⟩⟩
  have k4 : BookIs w.heap.size (w3.heap.size + 1) [] 0 W4 := ⟨by have := b3.size; omega, _, _, _, by rw [← hW4]; exact new_at2 _ _ _, World.ownsRow_nil _ _ _ _, World.ownsRow_nil _ _ _ _, World.ownsRow_nil _ _ _ _, fun e he => by cases he⟩
  have as4 : AS w (w3.heap.size + 1) 0 [.pointer (some sp3)] (.slice (some ⟨w3.heap.size, 0, none⟩) 1 1) [] W4 := ⟨b4, o4, k4⟩
  have HA4 := Lib.hid as4
  clear as4 o4 k4 b4 b3
  obtain ⟨bb, hbb⟩ : ∃ x, w3.heap.size + 1 = x := ⟨_, rfl⟩
  refine Lib.hid ?_
  go_wp2
  go_loopw [4, 6] (fun os is wr => ∃ (k : Nat) (ss : List Value) (es : List Ent), is = .int .i64 (k : Int) ∧ k ≤ ts.length ∧ AS w (w3.heap.size + 1) k ss os es wr ∧ SesOk ss ∧ 0 < ss.length ∧ ss.length ≤ k + 1 ∧ es.length = 4 * k ∧ ∀ e ∈ es, e.q ≤ k) (fun _ is _ => ts.length - (intOf is).toNat)
  case atStart => exact ⟨0, [.pointer (some sp3)], [], rfl, Nat.zero_le _, HA4.out, fun s h => .inr ⟨sp3, List.mem_singleton.1 h⟩, by simp, by simp, rfl, fun e he => by cases he⟩
  case round =>
    clear HA4 hW4
    obtain ⟨k, ss, es, rfl, hk, aS, hss, hs0, hs1, hes, hq⟩ := hrel
    by_cases hk1 : k < ts.length
    · obtain ⟨x, hx⟩ : ∃ x, ts[k]? = some x := ⟨_, List.getElem?_eq_getElem hk1⟩
      have ok := HT.out x (List.mem_of_getElem? hx)
      obtain ⟨_, _, hao, ha⟩ := HV.out.on aS.bw
      cases hao
      obtain ⟨g, o, rfl, hca⟩ := ha (by omega)
      obtain ⟨t0, t1, t2, t3, t4, t5, t6, t7, t8⟩ := ocells_at ts k x hx
      have c0 := hca _ _ t0
      have c1 := hca _ _ t1
      have c2 := hca _ _ t2
      have c3 := hca _ _ t3
      have c4 := hca _ _ t4
      have c5 := hca _ _ t5
      have c6 := hca _ _ t6
      have c7 := hca _ _ t7
      have c8 := hca _ _ t8
      rw [← Nat.add_assoc] at c1 c2 c3 c4 c5 c6 c7 c8
      obtain ⟨oW, ob, big, new, nil, P, T, I, D⟩ := x
      obtain ⟨hp, hlt, hln, hD, hb0, hb1, hw0, hw1⟩ := ok
      simp only at c0 c1 c2 c3 c4 c5 c6 c7 c8 hp hlt hln hD hb0 hb1 hw0 hw1
      unfold strV at c8
      obtain ⟨pa, pcc, rfl, _⟩ := id hp.tags
      obtain ⟨ia, ic, rfl, _⟩ := id hp.ids
      obtain ⟨va, vc, rfl⟩ := Go.Proofs.YteibjmlimcpaoaaGreatDoor.W.own_slice aS.oS
      obtain ⟨S, hS⟩ : ∃ S, ByteArray.mk D.toArray = S := ⟨_, rfl⟩
      rw [hS] at c8
      have ik : (k : Int) < (ts.length : Int) := by omega
      have ik0 : (0 : Int) ≤ (k : Int) := by omega
      have HP := Lib.hid hp
      have HSE := Lib.hid (And.intro hss (And.intro hes (And.intro hq hS)))
      clear hx ha hca t0 t1 t2 t3 t4 t5 t6 t7 t8 hp hss hes hq hS
      obtain ⟨W0, hW0⟩ : ∃ W, wr.alloc (.cells #[.int .i64 oW, .int .i64 ob, .bool big, .bool new, .bool nil, .slice pa P.tags.length pcc, .slice ia P.ids.length ic, .int .i64 P.text, .string S] 83) = W := ⟨_, rfl⟩
      have g0 : Below wr.heap.size wr W0 := by rw [← hW0]; exact below_alloc _ _
      have n0 : W0.heap[wr.heap.size]? = some (.cells #[.int .i64 oW, .int .i64 ob, .bool big, .bool new, .bool nil, .slice pa P.tags.length pcc, .slice ia P.ids.length ic, .int .i64 P.text, .string S] 83 (0, 0)) := by rw [← hW0]; exact new_at _ _
      have as0 := aS.below g0
      clear aS g0
      have y3 := cellsAt n0 3
      have y4 := cellsAt n0 4
      simp only [List.getElem?_toArray, List.getElem?_cons_zero, List.getElem?_cons_succ] at y3 y4
      have HA0 := Lib.hid (And.intro as0 n0)
      clear as0 n0
      obtain ⟨q1, hq1⟩ : ∃ q, (new && !nil) = q := ⟨_, rfl⟩
      obtain ⟨q2, hq2⟩ : ∃ q, (new && nil) = q := ⟨_, rfl⟩
      skip
      go_upto_region 10 with fail
      clear c0 c1 c2 c3 c4 c5 c6 c7 c8
      go_cut [46] (fun s46 wx => s46 = .bool q1 ∧ wx = W0)
      case first =>
        subst hq1
        clear hq2
        cases new <;> cases nil <;> (go_wp2_with fail; go_meet; exact ⟨rfl, rfl⟩)
      case rest =>
        obtain ⟨rfl, hwc⟩ := hcut
        subst hwc
        clear y3 y4
        go_upto_if 46 with fail
        go_cut [4] (fun s4 wx => ∃ (ss' : List Value) (va' : Option Addr) (vc' : Nat), s4 = .slice va' ss'.length vc' ∧ SesOk ss' ∧ 0 < ss'.length ∧ ss'.length + (if q1 = true then 0 else 1) ≤ k + 2 ∧ AS w (w3.heap.size + 1) k ss' (.slice va' ss'.length vc') es wx ∧ wx.heap[wr.heap.size]? = some (.cells #[.int .i64 oW, .int .i64 ob, .bool big, .bool new, .bool nil, .slice pa P.tags.length pcc, .slice ia P.ids.length ic, .int .i64 P.text, .string S] 83 (0, 0)))
        case first =>
          cases q1 with
          | false => go_wp2_with fail; go_meet; exact ⟨ss, va, vc, rfl, HSE.out.1, hs0, by simp; omega, HA0.out.1, HA0.out.2⟩
          | true =>
            have CN := Lib.hid (newW wc)
            go_wp2_with (go_at_call 10; refine CN.out.mono ?_; rintro e wn ⟨⟨np, rfl⟩, hbn⟩; refine Hid.out ?_)
            have an := HA0.out.1.below hbn
            have nn := at_below HA0.out.2 hbn
            have own := an.oS
            have HSZ := Lib.hid an.bw.size
            have HAN := Lib.hid (And.intro an nn)
            clear an nn hbn CN
            refine Lib.hid ?_
            go_wp2_with (at_builtin; refine wpList_append_own _ rfl _ _ 81 rfl w.heap.size 27 i0 (.pointer none) 1 8 Tryz.underlying81 hi hz0 hz1 hz2 rfl (by decide) _ _ _ rfl (own.alloc _) ⟨wn.heap.size, 0, none⟩ 1 1 [.pointer (some np)] rfl rfl (newCells _ _ _) (fun x hx => by simp at hx; rcases hx with rfl; rfl) (by unfold maxLen; omega) (by omega) (by have := HSZ.out; simp; omega) ?_; intro v' w5 hown' hgrow5 hnil5; refine Hid.out ?_)
            have aa := HAN.out.1.below (below_alloc wn (.cells #[.pointer (some np)] 27))
            have a5 := aa.push hgrow5 hown'
            have n5 := aa.cell hgrow5 (at_alloc (q := .cells #[.pointer (some np)] 27) HAN.out.2) (by decide)
            obtain ⟨v1, v2, rfl⟩ := Go.Proofs.YteibjmlimcpaoaaGreatDoor.W.own_slice a5.oS
            have HA5 := Lib.hid (And.intro a5 n5)
            clear a5 n5 aa hown' hgrow5 hnil5 own HAN
            refine Lib.hid ?_
            go_wp2_with fail
            go_meet
            exact ⟨ss ++ [.pointer (some np)], v1, v2, by simp, fun s hs => by rcases List.mem_append.1 hs with h | h; exact HSE.out.1 s h; exact .inr ⟨np, List.mem_singleton.1 h⟩, by simp, by simp; omega, HA5.out.1, HA5.out.2⟩
        case rest =>
          obtain ⟨s1, v1, v2, rfl, hso, hs0', hs1', as1, n1⟩ := hcut
          clear HA0 hs0 hs1
          have hs5 : s1.length + (if q2 = true then 1 else 0) ≤ k + 2 := by
            subst hq1 hq2
            revert hs1'
            cases new <;> cases nil <;> simp <;> omega
          have y3 := cellsAt n1 3
          have y4 := cellsAt n1 4
          simp only [List.getElem?_toArray, List.getElem?_cons_zero, List.getElem?_cons_succ] at y3 y4
          have HA1 := Lib.hid (And.intro as1 n1)
          have HSO := Lib.hid hso
          clear as1 n1 hso hs1'
          obtain ⟨Wc, hWc⟩ : ∃ W, W = wc := ⟨_, rfl⟩
          subst hWc
          go_upto_region 12 with fail
          go_cut [56] (fun s56 wx => s56 = .bool q2 ∧ wx = Wc)
          case first =>
            clear hs5
            subst hq2
            clear hq1
            cases new <;> cases nil <;> (go_wp2_with fail; go_meet; exact ⟨rfl, rfl⟩)
          case rest =>
            obtain ⟨rfl, hwc⟩ := hcut
            subst hwc
            clear y3 y4
            go_upto_if 56 with fail
            go_cut [4] (fun s4 wx => ∃ (ss' : List Value) (va' : Option Addr) (vc' : Nat), s4 = .slice va' ss'.length vc' ∧ SesOk ss' ∧ 0 < ss'.length ∧ ss'.length ≤ k + 2 ∧ AS w (w3.heap.size + 1) k ss' (.slice va' ss'.length vc') es wx ∧ wx.heap[wr.heap.size]? = some (.cells #[.int .i64 oW, .int .i64 ob, .bool big, .bool new, .bool nil, .slice pa P.tags.length pcc, .slice ia P.ids.length ic, .int .i64 P.text, .string S] 83 (0, 0)))
            case first =>
              cases q2 with
              | false => go_wp2_with fail; go_meet; exact ⟨s1, v1, v2, rfl, HSO.out, hs0', by simp at hs5; omega, HA1.out.1, HA1.out.2⟩
              | true =>
                have own := HA1.out.1.oS
                have HSZ := Lib.hid HA1.out.1.bw.size
                simp only [if_true] at hs5
                go_wp2_with (at_builtin; refine wpList_append_own _ rfl _ _ 81 rfl w.heap.size 27 i0 (.pointer none) 1 8 Tryz.underlying81 hi hz0 hz1 hz2 rfl (by decide) _ _ _ rfl (own.alloc _) ⟨wc.heap.size, 0, none⟩ 1 1 [.pointer none] rfl rfl (newCells _ _ _) (fun x hx => by simp at hx; rcases hx with rfl; rfl) (by unfold maxLen; omega) (by omega) (by have := HSZ.out; simp; omega) ?_; intro v' w5 hown' hgrow5 hnil5; refine Hid.out ?_)
                have aa := HA1.out.1.below (below_alloc wc (.cells #[.pointer none] 27))
                have a5 := aa.push hgrow5 hown'
                have n5 := aa.cell hgrow5 (at_alloc (q := .cells #[.pointer none] 27) HA1.out.2) (by decide)
                obtain ⟨u1', u2', rfl⟩ := Go.Proofs.YteibjmlimcpaoaaGreatDoor.W.own_slice a5.oS
                have HA5 := Lib.hid (And.intro a5 n5)
                clear a5 n5 aa hown' hgrow5 hnil5 own HA1
                refine Lib.hid ?_
                go_wp2_with fail
                go_meet
                exact ⟨s1 ++ [.pointer none], u1', u2', by simp, fun s hs => by rcases List.mem_append.1 hs with h | h; exact HSO.out s h; exact .inl (List.mem_singleton.1 h), by simp, by simp; omega, HA5.out.1, HA5.out.2⟩
            case rest =>
              obtain ⟨ss2, z1, z2, rfl, hso, hs0', hs2, as2, n2⟩ := hcut
              clear HA1 hs5 HSO hq1 hq2
              obtain ⟨Wd, hWd⟩ : ∃ W, W = wc := ⟨_, rfl⟩
              subst hWd
              have hsl : 0 < (ss2.length : Int) := by omega
              have CP := Lib.hid (pickV oW (ss2.length : Int) Wd hw0 hw1 hsl (by omega))
              obtain ⟨gs, gcap, gcs, hve, hbg, hgg⟩ := Go.Proofs.YteibjmlimcpaoaaGreatDoor.W.own_form as2.oS hs0'
              cases hve
              have HSO := Lib.hid hso
              have y0 := cellsAt n2 0
              have y1 := cellsAt n2 1
              have y2 := cellsAt n2 2
              simp only [List.getElem?_toArray, List.getElem?_cons_zero, List.getElem?_cons_succ] at y0 y1 y2
              have HA2 := Lib.hid (And.intro as2 n2)
              clear as2 n2 hso hgg hbg
              go_wp2_with (go_at_call 21; refine CP.out.mono ?_; rintro e wp ⟨m, hm, rfl, hwp⟩; have hwp := hwp.symm; subst hwp; refine Hid.out ?_)
              have hm' : m < ss2.length := by omega
              obtain ⟨s, hs⟩ : ∃ s, ss2[m]? = some s := ⟨_, List.getElem?_eq_getElem hm'⟩
              have cm := HA2.out.1.oS.cellAt m (by omega)
              rw [hs] at cm
              have im0 : (0 : Int) ≤ (m : Int) := by omega
              have hsv := HSO.out s (List.mem_of_getElem? hs)
              have HSV := Lib.hid hsv
              clear hs hsv CP
              obtain ⟨en, hen⟩ : ∃ b : Int, 64 * (D.length : Int) + 4096 = b := ⟨_, rfl⟩
              have CE := Lib.hid (fun (x : World) => enoughV D x (by omega) en hen)
              unfold strV at CE
              rw [HSE.out.2.2.2] at CE
              obtain ⟨b, hb⟩ : ∃ b : Int, (if big = true then en else ob) = b := ⟨_, rfl⟩
              refine Lib.hid ?_
              go_upto_if 71 with fail
              go_cut [9] (fun s9 wx => s9 = .int .i64 b ∧ wx = Wd)
              case first =>
                cases big with
                | false => simp only [Bool.false_eq_true, if_false] at hb; subst hb; go_wp2_with fail; go_meet; exact ⟨rfl, rfl⟩
                | true =>
                  simp only [if_true] at hb
                  subst hb
                  have x8 := cellsAt HA2.out.2 8
                  simp only [List.getElem?_toArray, List.getElem?_cons_zero, List.getElem?_cons_succ] at x8
                  go_wp2_with (go_at_call 13; refine (CE.out _).mono ?_; rintro e wq ⟨rfl, hwq⟩; have hwq := hwq.symm; subst hwq)
                  go_meet
                  exact ⟨rfl, rfl⟩
              case rest =>
                obtain ⟨rfl, hwc⟩ := hcut
                subst hwc
                clear y0 y1 y2 cm im0 hm hm'
                rw [hbb] at HA2
                apply_assumption
                refine allMid (w := w) (by omega) hlt hln hD hb0 hb1 hb hen HSE HSV CE HP HG HB HA2 ?_
                intro w' v10 v11 v12 v13 v14 v15 v16 v17 v18 v19 v20 v21 v75 v76 v77 v78 v79 v80 v81 v82 v83 v84 v85 v86 v87 v88 v89 v90 v91 v92 v93 v94 v95 v96 v97 v98 v99 v100 v101 v102 v103 v104 v105 v106 v107 v108 v109 v110 v111 v112 v113 v114 v115 v116 v117 v118 v119 v120 v121 v122 v123 v124 v125 v126 v127 v128 v129 v130 v131 v132 v133 v134 v135 v136 v137 v138 v139 v140 v141 v142 v143 v144 v145 v146 v147 v148 v149 v150 v151 v152 v153 v154 v155 v156 v157 v158 v159 v160 v161 nws h1 h2 h3
                have H13 := Lib.hid (And.intro h1 (And.intro h2 h3))
                clear h1 h2 h3
                go_wp2
                exact ⟨⟨k + 1, ss2, es ++ nws, by go_num, by omega, by rw [hbb]; exact H13.out.1, HSO.out, hs0', by omega, H13.out.2.2, H13.out.2.1⟩, by simp [intOf]; omega⟩
    · have ik : ¬ ((k : Int) < (ts.length : Int)) := by omega
      obtain ⟨va, vc, rfl⟩ := Go.Proofs.YteibjmlimcpaoaaGreatDoor.W.own_slice aS.oS
      have bw := aS.bw
      clear aS
      go_wp2
      go_ret
      exact ⟨rfl, bw⟩
end Go.Proofs.YteibjmlimcpaoaaGreatDoor.V
