/-
  The law All: a round's middle and tail, from lentPolicy on: a theorem of its own.
-/
import Derived.Test.YteibjmlimcpaoaaGreatDoorLAlT
import Derived.Deep.CutRange
set_option linter.unusedVariables false
set_option linter.unusedSimpArgs false
namespace Go.Proofs.YteibjmlimcpaoaaGreatDoor.V
open Go.RowKit Go.Sort
open Go.Proofs.YteibjmlimcpaoaaGreatDoor.W (at_below at_alloc new_at below_alloc PolIs pv strV Gl cell_lt inspectW sinspectW newW RowIs Ok1 ocells ocells_at OkOk)

noncomputable def allM : Code := ((Tryz.f8.body.bind (tailR 18)).getD .skip)

set_option maxRecDepth 100000 in
set_option maxHeartbeats 60000000 in
theorem allMid {c0 c1 c2 c3 c4 c6 c10 c11 c12 c13 c14 c15 c16 c17 c18 c19 c20 c21 c22 c23 c24 c25 c26 c27 c28 c29 c30 c31 c32 c33 c34 c35 c36 c37 c38 c39 c40 c41 c42 c43 c44 c45 c46 c47 c48 c49 c50 c51 c52 c53 c54 c55 c56 c57 c58 c59 c60 c61 c62 c63 c64 c65 c66 c67 c68 c69 c70 c71 c72 c73 c74 c75 c76 c77 c78 c79 c80 c81 c82 c83 c84 c85 c86 c87 c88 c89 c90 c91 c92 c93 c94 c95 c96 c97 c98 c99 c100 c101 c102 c103 c104 c105 c106 c107 c108 c109 c110 c111 c112 c113 c114 c115 c116 c117 c118 c119 c120 c121 c122 c123 c124 c125 c126 c127 c128 c129 c130 c131 c132 c133 c134 c135 c136 c137 c138 c139 c140 c141 c142 c143 c144 c145 c146 c147 c148 c149 c150 c151 c152 c153 c154 c155 c156 c157 c158 c159 c160 c161 s : Value} {w wc : World} {k bb ko : Nat} {ss2 : List Value} {V : Value} {es : List Ent} {P : Pol} {D : List UInt8} {pa ia : Option Addr} {pcc ic : Nat} {S : ByteArray} {oW ob b en : Int} {big new nil : Bool} {Z : Prop} {Q' : Exit → Act → World → Prop}
    (hk : k ≤ 1466015503658) (hlt : P.tags.length ≤ 8796093021952) (hln : P.ids.length ≤ 17592186043904) (hD : D.length ≤ 140737488351232) (hb0 : -9223372036854775808 ≤ ob) (hb1 : ob ≤ 9223372036854775807) (hb : (if big = true then en else ob) = b) (hen : 64 * (D.length : Int) + 4096 = en)
    (HSE : Hid (Z ∧ es.length = 4 * k ∧ (∀ (e : Ent), e ∈ es → e.q ≤ k) ∧ ByteArray.mk D.toArray = S))
    (HSV : Hid (s = .pointer none ∨ ∃ sp, s = .pointer (some sp)))
    (CE : Hid (∀ (x : World), Calls Tryz.prog 13 #[.string S] x fun e w' => e = .returned (.int .i64 en) ∧ w' = x))
    (HP : Hid (PolIs P (.slice pa P.tags.length pcc) (.slice ia P.ids.length ic) w)) (HG : Hid (∀ (x : World), Below w.heap.size w x → Gl x)) (HB : Hid (∀ (x : World), Below w.heap.size w x → x.cell? ⟨7, 15, none⟩ = some (.int .u8 4)))
    (HA2 : Hid (AS w bb k ss2 V es wc ∧ wc.heap[ko]? = some (.cells #[.int .i64 oW, .int .i64 ob, .bool big, .bool new, .bool nil, .slice pa P.tags.length pcc, .slice ia P.ids.length ic, .int .i64 P.text, .string S] 83 (0, 0))))
    (hQ : ∀ (w' : World) (v10 v11 v12 v13 v14 v15 v16 v17 v18 v19 v20 v21 v75 v76 v77 v78 v79 v80 v81 v82 v83 v84 v85 v86 v87 v88 v89 v90 v91 v92 v93 v94 v95 v96 v97 v98 v99 v100 v101 v102 v103 v104 v105 v106 v107 v108 v109 v110 v111 v112 v113 v114 v115 v116 v117 v118 v119 v120 v121 v122 v123 v124 v125 v126 v127 v128 v129 v130 v131 v132 v133 v134 v135 v136 v137 v138 v139 v140 v141 v142 v143 v144 v145 v146 v147 v148 v149 v150 v151 v152 v153 v154 v155 v156 v157 v158 v159 v160 v161 : Value) (nws : List Ent), AS w bb (k + 1) ss2 V (es ++ nws) w' → (∀ e ∈ es ++ nws, e.q ≤ k + 1) → (es ++ nws).length = 4 * (k + 1) → Q' .normal ⟨(c0 :: c1 :: c2 :: c3 :: c4 :: .pointer (some ⟨bb, 0, none⟩) :: c6 :: .pointer (some ⟨ko, 0, none⟩) :: s :: .int .i64 b :: v10 :: v11 :: v12 :: v13 :: v14 :: v15 :: v16 :: v17 :: v18 :: v19 :: v20 :: v21 :: c22 :: c23 :: c24 :: c25 :: c26 :: c27 :: c28 :: c29 :: c30 :: c31 :: c32 :: c33 :: c34 :: c35 :: c36 :: c37 :: c38 :: c39 :: c40 :: c41 :: c42 :: c43 :: c44 :: c45 :: c46 :: c47 :: c48 :: c49 :: c50 :: c51 :: c52 :: c53 :: c54 :: c55 :: c56 :: c57 :: c58 :: c59 :: c60 :: c61 :: c62 :: c63 :: c64 :: c65 :: c66 :: c67 :: c68 :: c69 :: c70 :: c71 :: c72 :: c73 :: c74 :: v75 :: v76 :: v77 :: v78 :: v79 :: v80 :: v81 :: v82 :: v83 :: v84 :: v85 :: v86 :: v87 :: v88 :: v89 :: v90 :: v91 :: v92 :: v93 :: v94 :: v95 :: v96 :: v97 :: v98 :: v99 :: v100 :: v101 :: v102 :: v103 :: v104 :: v105 :: v106 :: v107 :: v108 :: v109 :: v110 :: v111 :: v112 :: v113 :: v114 :: v115 :: v116 :: v117 :: v118 :: v119 :: v120 :: v121 :: v122 :: v123 :: v124 :: v125 :: v126 :: v127 :: v128 :: v129 :: v130 :: v131 :: v132 :: v133 :: v134 :: v135 :: v136 :: v137 :: v138 :: v139 :: v140 :: v141 :: v142 :: v143 :: v144 :: v145 :: v146 :: v147 :: v148 :: v149 :: v150 :: v151 :: v152 :: v153 :: v154 :: v155 :: v156 :: v157 :: v158 :: v159 :: v160 :: v161 :: ([] : List Value)).toArray, []⟩ w') :
    Code.wp Tryz.prog allM Q' ⟨(c0 :: c1 :: c2 :: c3 :: c4 :: .pointer (some ⟨bb, 0, none⟩) :: c6 :: .pointer (some ⟨ko, 0, none⟩) :: s :: .int .i64 b :: c10 :: c11 :: c12 :: c13 :: c14 :: c15 :: c16 :: c17 :: c18 :: c19 :: c20 :: c21 :: c22 :: c23 :: c24 :: c25 :: c26 :: c27 :: c28 :: c29 :: c30 :: c31 :: c32 :: c33 :: c34 :: c35 :: c36 :: c37 :: c38 :: c39 :: c40 :: c41 :: c42 :: c43 :: c44 :: c45 :: c46 :: c47 :: c48 :: c49 :: c50 :: c51 :: c52 :: c53 :: c54 :: c55 :: c56 :: c57 :: c58 :: c59 :: c60 :: c61 :: c62 :: c63 :: c64 :: c65 :: c66 :: c67 :: c68 :: c69 :: c70 :: c71 :: c72 :: c73 :: c74 :: c75 :: c76 :: c77 :: c78 :: c79 :: c80 :: c81 :: c82 :: c83 :: c84 :: c85 :: c86 :: c87 :: c88 :: c89 :: c90 :: c91 :: c92 :: c93 :: c94 :: c95 :: c96 :: c97 :: c98 :: c99 :: c100 :: c101 :: c102 :: c103 :: c104 :: c105 :: c106 :: c107 :: c108 :: c109 :: c110 :: c111 :: c112 :: c113 :: c114 :: c115 :: c116 :: c117 :: c118 :: c119 :: c120 :: c121 :: c122 :: c123 :: c124 :: c125 :: c126 :: c127 :: c128 :: c129 :: c130 :: c131 :: c132 :: c133 :: c134 :: c135 :: c136 :: c137 :: c138 :: c139 :: c140 :: c141 :: c142 :: c143 :: c144 :: c145 :: c146 :: c147 :: c148 :: c149 :: c150 :: c151 :: c152 :: c153 :: c154 :: c155 :: c156 :: c157 :: c158 :: c159 :: c160 :: c161 :: ([] : List Value)).toArray, []⟩ wc := by
  have HQ := Lib.hid hQ
  clear hQ
  conv => arg 2; whnf
  have hbl : b ≤ 9223372036854775807 := by rw [← hb]; cases big <;> simp <;> omega
  have HBE := Lib.hid (And.intro hb hen)
  clear hb hen
  obtain ⟨r, st, rd, er, hin, hcase⟩ := insp_any P D b
  obtain ⟨wr0, fr0, hask⟩ : ∃ a c, askR P D = (a, c) := ⟨_, _, rfl⟩
  rw [hask] at hcase
  simp only at hcase
  have hl0 := insp_len_any P D b r st rd er hin
  have hl1 := ask_len P D
  rw [hask] at hl1
  simp only at hl1
  obtain ⟨R, St, Rd, Er, hR, CSn⟩ := sinspAny s HSV.out P D b r st rd er hin
  have hlR : R.lt.length ≤ 16 ∧ R.ln.length ≤ 20 := by rcases hR with ⟨_, h, _⟩ | ⟨_, h, _⟩ <;> rw [h] <;> first | exact ⟨by decide, by decide⟩ | exact hl0
  have HCS := Lib.hid CSn
  have HI := Lib.hid (fun (x : World) (h : Below w.heap.size w x) => inspectW P (.slice pa P.tags.length pcc) (.slice ia P.ids.length ic) D b x (by omega) hbl (HP.out.on h) (HG.out x h) (HB.out x h) r st rd er hin)
  have HR := Lib.hid (fun (x : World) (h : Below w.heap.size w x) => inspectD P (.slice pa P.tags.length pcc) (.slice ia P.ids.length ic) D x (HP.out.on h) (by omega) wr0 fr0 hask)
  have HCA := Lib.hid (And.intro hcase hR)
  clear hin hask hcase hR CSn
  have bWd := HA2.out.1.bw
  have sww := bWd.size
  have lE : Hid (∀ e ∈ es, (∀ j, e.T.ownBlock = some j → j < wc.heap.size) ∧ (∀ j, e.N.ownBlock = some j → j < wc.heap.size)) := by obtain ⟨_, _, _, _, _, _, _, _, hh⟩ := HA2.out.1.bk; exact Lib.hid (fun e he => ⟨fun j hj => ((hh e he).1.lt j hj).2, fun j hj => ((hh e he).2.lt j hj).2⟩)
  have C3 := Lib.hid (lentP P (.slice pa P.tags.length pcc) (.slice ia P.ids.length ic) wc (HP.out.on bWd) hlt hln)
  unfold pv at C3
  have y5 := cellsAt HA2.out.2 5
  have y6 := cellsAt HA2.out.2 6
  have y7 := cellsAt HA2.out.2 7
  simp only [List.getElem?_toArray, List.getElem?_cons_zero, List.getElem?_cons_succ] at y5 y6 y7
  go_wp2_with (go_at_call 11; refine C3.out.mono ?_; rintro e w4 ⟨hb4, gt, gn, ct, cn, rfl, hgl, hgg, hgt, hct, hgn, hcn⟩; refine Hid.out ?_)
  clear y5 y6 y7 C3
  obtain ⟨W4, hW4⟩ : ∃ W, w4.alloc (.cells #[.slice (some ⟨gt, 0, none⟩) P.tags.length (P.tags.length + 8), .slice (some ⟨gn, 0, none⟩) P.ids.length (P.ids.length + 8), .int .i64 P.text] 25) = W := ⟨_, rfl⟩
  have g4 : Below w4.heap.size w4 W4 := by rw [← hW4]; exact below_alloc _ _
  have q4 : W4.heap[w4.heap.size]? = some (.cells #[.slice (some ⟨gt, 0, none⟩) P.tags.length (P.tags.length + 8), .slice (some ⟨gn, 0, none⟩) P.ids.length (P.ids.length + 8), .int .i64 P.text] 25 (0, 0)) := by rw [← hW4]; exact new_at _ _
  have d4 : Below wc.heap.size wc W4 := hb4.trans (g4.mono hb4.size)
  have b4 := bWd.trans (d4.mono bWd.size)
  have o4 := at_below HA2.out.2 d4
  have t4 := at_below hgt g4
  have u4 := at_below hgn g4
  have hp4 : PolIs P (.slice (some ⟨gt, 0, none⟩) P.tags.length (P.tags.length + 8)) (.slice (some ⟨gn, 0, none⟩) P.ids.length (P.ids.length + 8)) W4 := lent_isA (HP.out.on b4) t4 hct u4 hcn
  have C4 := Lib.hid (HCS.out _ _ W4 (by omega) hbl hp4 (HG.out _ b4) (HB.out _ b4))
  unfold pv strV Rep.val at C4
  rw [HSE.out.2.2.2] at C4
  have sgt : wc.heap.size ≤ gt := hgl
  have sgn : gn < w4.heap.size := (Array.getElem?_eq_some_iff.1 hgn).1
  have swc : ko < wc.heap.size := (Array.getElem?_eq_some_iff.1 HA2.out.2).1
  have s44 : w4.heap.size < W4.heap.size := (Array.getElem?_eq_some_iff.1 q4).1
  have y0 := cellsAt q4 0
  have y1 := cellsAt q4 1
  have y2 := cellsAt q4 2
  simp only [List.getElem?_toArray, List.getElem?_cons_zero, List.getElem?_cons_succ] at y0 y1 y2
  have x8 := cellsAt o4 8
  simp only [List.getElem?_toArray, List.getElem?_cons_zero, List.getElem?_cons_succ] at x8
  have H4 := Lib.hid (And.intro q4 (And.intro o4 (And.intro t4 (And.intro u4 (And.intro d4 (And.intro hct hcn))))))
  clear q4 o4 t4 u4 d4 hct hcn hgt hgn hb4 g4 hp4 b4 HCS
  refine Lib.hid ?_
  go_wp2_with (go_at_call 30; refine C4.out.mono ?_; rintro e w5 ⟨VA, VB, rfl, oA, oB, hb5⟩; obtain ⟨ta, tc, rfl⟩ := Go.Proofs.YteibjmlimcpaoaaGreatDoor.W.own_slice oA; obtain ⟨na, nc, rfl⟩ := Go.Proofs.YteibjmlimcpaoaaGreatDoor.W.own_slice oB; refine Hid.out ?_)
  clear y0 y1 y2 x8 C4 hW4
  obtain ⟨W5, hW5⟩ : ∃ W, (w5.alloc (.cells #[.int .i64 R.kind, .slice ta R.lt.length tc, .int .i64 R.hs, .int .i64 R.hf, .int .i64 R.hu, .int .i64 R.rs, .int .i64 R.rv, .int .i64 R.rb, .int .i64 R.nm, .slice na R.ln.length nc, .int .i64 R.cs, .int .i64 R.cf, .int .i64 R.cc] 39)).alloc (.cells #[.int .i64 (St : Int), .int .i64 (Rd : Int)] 41) = W := ⟨_, rfl⟩
  have g5 : Below w5.heap.size w5 W5 := by rw [← hW5]; exact (below_alloc _ _).alloc (by simp) _
  have d5 : Below W4.heap.size W4 W5 := hb5.trans (g5.mono hb5.size)
  have r5 : RpAt W4.heap.size w5.heap.size R (.slice ta R.lt.length tc) (.slice na R.ln.length nc) W5 := ⟨by rw [← hW5]; exact at_alloc (new_at _ _), own_any oA g5, own_any oB g5⟩
  have m5 : W5.heap[w5.heap.size + 1]? = some (.cells #[.int .i64 (St : Int), .int .i64 (Rd : Int)] 41 (0, 0)) := by rw [← hW5]; exact new_at2 _ _ _
  have s55 : W4.heap.size ≤ w5.heap.size := hb5.size
  have s5a : w5.heap.size + 1 < W5.heap.size := (Array.getElem?_eq_some_iff.1 m5).1
  have q5 := at_below H4.out.1 d5
  have o5 := at_below H4.out.2.1 d5
  have t5 := at_below H4.out.2.2.1 d5
  have u5 := at_below H4.out.2.2.2.1 d5
  have dw5 : Below wc.heap.size wc W5 := H4.out.2.2.2.2.1.trans (d5.mono H4.out.2.2.2.2.1.size)
  have b5 := bWd.trans (dw5.mono bWd.size)
  have C5 := Lib.hid (keptP P (.slice pa P.tags.length pcc) (.slice ia P.ids.length ic) W5 (HP.out.on b5) hlt hln gt gn ct cn hgg t5 H4.out.2.2.2.2.2.1 u5 H4.out.2.2.2.2.2.2)
  unfold pv at C5
  have y0 := cellsAt q5 0
  have y1 := cellsAt q5 1
  have y2 := cellsAt q5 2
  simp only [List.getElem?_toArray, List.getElem?_cons_zero, List.getElem?_cons_succ] at y0 y1 y2
  have x5 := cellsAt o5 5
  have x6 := cellsAt o5 6
  have x7 := cellsAt o5 7
  simp only [List.getElem?_toArray, List.getElem?_cons_zero, List.getElem?_cons_succ] at x5 x6 x7
  have H5 := Lib.hid (And.intro r5 (And.intro m5 (And.intro o5 (And.intro t5 (And.intro u5 dw5)))))
  clear r5 m5 q5 o5 t5 u5 dw5 d5 g5 hb5 oA oB H4 b5
  refine Lib.hid ?_
  go_wp2_with (go_at_call 16; refine C5.out.mono ?_; rintro e w6 ⟨rfl, wm, gA, gB⟩; refine Hid.out ?_)
  clear y0 y1 y2 x5 x6 x7 C5 hW5
  obtain ⟨r5, m5, o5, t5, u5, dw5⟩ := H5.out
  have um := Go.Proofs.YteibjmlimcpaoaaGreatDoor.W.grown_at gA u5 (by omega)
  have r6 := (r5.grown gA t5 (by decide) (by decide) (by decide)).grown gB um (by decide) (by decide) (by decide)
  have m6 := Go.Proofs.YteibjmlimcpaoaaGreatDoor.W.grown_at gB (Go.Proofs.YteibjmlimcpaoaaGreatDoor.W.grown_at gA m5 (by omega)) (by omega)
  have o6 := Go.Proofs.YteibjmlimcpaoaaGreatDoor.W.grown_at gB (Go.Proofs.YteibjmlimcpaoaaGreatDoor.W.grown_at gA o5 (by omega)) (by omega)
  have dm := dw5.grown gA dw5.size (fun j hj => by cases hj; omega)
  have dw6 := dm.grown gB dm.size (fun j hj => by cases hj; omega)
  have as6 := HA2.out.1.below dw6
  have s56 : W5.heap.size ≤ w6.heap.size := Nat.le_trans gA.size gB.size
  have C6 := Lib.hid (HI.out w6 as6.bw)
  unfold pv strV Rep.val at C6
  rw [HSE.out.2.2.2] at C6
  have lT : Hid ((∀ k, (Value.slice ta R.lt.length tc).ownBlock = some k → W4.heap.size ≤ k ∧ k < w6.heap.size) ∧ (∀ k, (Value.slice na R.ln.length nc).ownBlock = some k → W4.heap.size ≤ k ∧ k < w6.heap.size)) := Lib.hid ⟨fun k hk => r6.oT.lt k hk, fun k hk => r6.oN.lt k hk⟩
  have s46 : wc.heap.size ≤ W4.heap.size := by omega
  have x5 := cellsAt o6 5
  have x6 := cellsAt o6 6
  have x7 := cellsAt o6 7
  have x8 := cellsAt o6 8
  simp only [List.getElem?_toArray, List.getElem?_cons_zero, List.getElem?_cons_succ] at x5 x6 x7 x8
  have H6 := Lib.hid (And.intro r6 (And.intro m6 (And.intro o6 as6)))
  clear r5 m5 o5 t5 u5 dw5 um dm dw6 r6 m6 o6 as6 gA gB H5 HI
  refine Lib.hid ?_
  go_wp2_with (go_at_call 12; refine C6.out.mono ?_; rintro e w7 ⟨VA, VB, rfl, oA, oB, hb7⟩; obtain ⟨eta, etc, rfl⟩ := Go.Proofs.YteibjmlimcpaoaaGreatDoor.W.own_slice oA; obtain ⟨ena, enc, rfl⟩ := Go.Proofs.YteibjmlimcpaoaaGreatDoor.W.own_slice oB; refine Hid.out ?_)
  clear x5 x6 x7 x8 C6 oA oB
  obtain ⟨W7, hW7⟩ : ∃ W, (w7.alloc (.cells #[.int .i64 r.kind, .slice eta r.lt.length etc, .int .i64 r.hs, .int .i64 r.hf, .int .i64 r.hu, .int .i64 r.rs, .int .i64 r.rv, .int .i64 r.rb, .int .i64 r.nm, .slice ena r.ln.length enc, .int .i64 r.cs, .int .i64 r.cf, .int .i64 r.cc] 39)).alloc (.cells #[.int .i64 (st : Int), .int .i64 (rd : Int)] 41) = W := ⟨_, rfl⟩
  have g7 : Below w7.heap.size w7 W7 := by rw [← hW7]; exact (below_alloc _ _).alloc (by simp) _
  have d7 : Below w6.heap.size w6 W7 := hb7.trans (g7.mono hb7.size)
  have n7 : W7.heap[w7.heap.size + 1]? = some (.cells #[.int .i64 (st : Int), .int .i64 (rd : Int)] 41 (0, 0)) := by rw [← hW7]; exact new_at2 _ _ _
  have r7 := H6.out.1.below d7
  have m7 := at_below H6.out.2.1 d7
  have o7 := at_below H6.out.2.2.1 d7
  have as7 := H6.out.2.2.2.below d7
  have s67 : w6.heap.size ≤ w7.heap.size := hb7.size
  have C7 := Lib.hid (HR.out W7 as7.bw)
  unfold pv strV Rep.val at C7
  rw [HSE.out.2.2.2] at C7
  have x5 := cellsAt o7 5
  have x6 := cellsAt o7 6
  have x7 := cellsAt o7 7
  have x8 := cellsAt o7 8
  simp only [List.getElem?_toArray, List.getElem?_cons_zero, List.getElem?_cons_succ] at x5 x6 x7 x8
  have H7 := Lib.hid (And.intro r7 (And.intro m7 (And.intro o7 (And.intro as7 n7))))
  have s77 : w7.heap.size + 1 < W7.heap.size := (Array.getElem?_eq_some_iff.1 n7).1
  clear r7 m7 o7 as7 n7 d7 g7 hb7 H6 HR
  refine Lib.hid ?_
  go_wp2_with (go_at_call 14; refine C7.out.mono ?_; rintro e w8 ⟨VA, VB, rfl, oA, oB, hb8⟩; obtain ⟨dta, dtc, rfl⟩ := Go.Proofs.YteibjmlimcpaoaaGreatDoor.W.own_slice oA; obtain ⟨dna, dnc, rfl⟩ := Go.Proofs.YteibjmlimcpaoaaGreatDoor.W.own_slice oB; refine Hid.out ?_)
  clear x5 x6 x7 x8 C7 hW7
  obtain ⟨W8, hW8⟩ : ∃ W, w8.alloc (.cells #[.int .i64 wr0.kind, .slice dta wr0.lt.length dtc, .int .i64 wr0.hs, .int .i64 wr0.hf, .int .i64 wr0.hu, .int .i64 wr0.rs, .int .i64 wr0.rv, .int .i64 wr0.rb, .int .i64 wr0.nm, .slice dna wr0.ln.length dnc, .int .i64 wr0.cs, .int .i64 wr0.cf, .int .i64 wr0.cc] 39) = W := ⟨_, rfl⟩
  have g8 : Below w8.heap.size w8 W8 := by rw [← hW8]; exact below_alloc _ _
  have d8 : Below W7.heap.size W7 W8 := hb8.trans (g8.mono hb8.size)
  have dd : RpAt W7.heap.size w8.heap.size wr0 (.slice dta wr0.lt.length dtc) (.slice dna wr0.ln.length dnc) W8 := ⟨by rw [← hW8]; exact new_at _ _, own_any oA g8, own_any oB g8⟩
  have r8 := H7.out.1.below d8
  have m8 := at_below H7.out.2.1 d8
  have o8 := at_below H7.out.2.2.1 d8
  have as8 := H7.out.2.2.2.1.below d8
  have n8 := at_below H7.out.2.2.2.2 d8
  have s78 : W7.heap.size ≤ w8.heap.size := hb8.size
  have H8 := Lib.hid (And.intro r8 (And.intro m8 (And.intro o8 (And.intro as8 (And.intro n8 dd)))))
  clear r8 m8 o8 as8 n8 dd d8 g8 hb8 oA oB H7
  refine Lib.hid ?_
  obtain ⟨isn, hisn⟩ : ∃ q : Bool, (q = true ↔ s = .pointer none) := by rcases HSV.out with h | ⟨sp2, h⟩; exact ⟨true, by simp [h]⟩; exact ⟨false, by simp [h]⟩
  obtain ⟨F1, hF1⟩ : ∃ x : Int, (if isn = true then 1 else fr0) = x := ⟨_, rfl⟩
  obtain ⟨w10, hw10⟩ : ∃ x : Rep, (if isn = true then Rep.none else wr0) = x := ⟨_, rfl⟩
  have HIS := Lib.hid (And.intro hisn (And.intro hF1 hw10))
  clear hisn hF1 hw10
  go_upto_region 23 with fail
  go_cut [111] from 75 to 161 (fun s111 wx => s111 = .bool isn ∧ wx = W8)
  case first =>
    rcases HSV.out with hs | ⟨sp', hs⟩
    · subst hs
      obtain rfl : isn = true := HIS.out.1.2 rfl
      go_wp2_with fail
      go_meet
      exact ⟨rfl, rfl⟩
    · subst hs
      obtain rfl : isn = false := by cases hq : isn with | false => rfl | true => exact absurd (HIS.out.1.1 hq) (by simp)
      go_wp2_with fail
      go_meet
      exact ⟨rfl, rfl⟩
  case rest =>
    obtain ⟨rfl, hwc⟩ := hcut
    subst hwc
    obtain ⟨We, hWe⟩ : ∃ W, W = wc := ⟨_, rfl⟩
    subst hWe
    go_upto_if 111 with fail
    go_cut [17, 19] from 75 to 161 (fun s17 s19 wx => ∃ (xta xna : Option Addr) (xtc xnc : Nat), s17 = .int .i64 Er ∧ s19 = .int .i64 F1 ∧ RpAt W4.heap.size w5.heap.size R (.slice ta R.lt.length tc) (.slice na R.ln.length nc) wx ∧ wx.heap[w5.heap.size + 1]? = some (.cells #[.int .i64 (St : Int), .int .i64 (Rd : Int)] 41 (0, 0)) ∧ wx.heap[ko]? = some (.cells #[.int .i64 oW, .int .i64 ob, .bool big, .bool new, .bool nil, .slice pa P.tags.length pcc, .slice ia P.ids.length ic, .int .i64 P.text, .string S] 83 (0, 0)) ∧ AS w bb k ss2 V es wx ∧ wx.heap[w7.heap.size + 1]? = some (.cells #[.int .i64 (St : Int), .int .i64 (Rd : Int)] 41 (0, 0)) ∧ RpAt W7.heap.size w8.heap.size w10 (.slice xta w10.lt.length xtc) (.slice xna w10.ln.length xnc) wx ∧ We.heap.size ≤ wx.heap.size)
    case first =>
      obtain ⟨r8, m8, o8, as8, n8, dd⟩ := H8.out
      cases isn with
      | false =>
        have hF1 := HIS.out.2.1
        have hw10 := HIS.out.2.2
        simp only [Bool.false_eq_true, if_false] at hF1 hw10
        subst hF1 hw10
        obtain ⟨rfl, rfl, rfl, rfl⟩ : r = R ∧ st = St ∧ rd = Rd ∧ er = Er := by
          rcases HCA.out.2 with ⟨h, _⟩ | ⟨_, h1, h2, h3, h4⟩
          · have := HIS.out.1.2 h; cases this
          · exact ⟨h1.symm, h2.symm, h3.symm, h4.symm⟩
        have HX := Lib.hid (And.intro r8 (And.intro m8 (And.intro o8 (And.intro as8 (And.intro n8 dd)))))
        clear r8 m8 o8 as8 n8 dd
        go_wp2_with fail
        go_meet
        exact ⟨dta, dna, dtc, dnc, rfl, rfl, HX.out.1, HX.out.2.1, HX.out.2.2.1, HX.out.2.2.2.1, HX.out.2.2.2.2.1, HX.out.2.2.2.2.2, Nat.le_refl _⟩
      | true =>
        have hF1 := HIS.out.2.1
        have hw10 := HIS.out.2.2
        simp only [if_true] at hF1 hw10
        subst hF1 hw10
        obtain ⟨hRn, hSt, hRd, hEr⟩ : R = Rep.none ∧ St = 0 ∧ Rd = 0 ∧ Er = 1 := by
          rcases HCA.out.2 with ⟨_, h1, h2, h3, h4⟩ | ⟨⟨sp', h⟩, _⟩
          · exact ⟨h1, h2, h3, h4⟩
          · have := HIS.out.1.1 rfl; rw [h] at this; cases this
        have x0 := cellsAt n8 0
        have x1 := cellsAt n8 1
        simp only [List.getElem?_toArray, List.getElem?_cons_zero, List.getElem?_cons_succ] at x0 x1
        have fx0 := frozenAt n8 0
        have fx1 := frozenAt n8 1
        have z0 := cellsAt dd.h 0
        have z1 := cellsAt dd.h 1
        have z2 := cellsAt dd.h 2
        have z3 := cellsAt dd.h 3
        have z4 := cellsAt dd.h 4
        have z5 := cellsAt dd.h 5
        have z6 := cellsAt dd.h 6
        have z7 := cellsAt dd.h 7
        have z8 := cellsAt dd.h 8
        have z9 := cellsAt dd.h 9
        have z10 := cellsAt dd.h 10
        have z11 := cellsAt dd.h 11
        have z12 := cellsAt dd.h 12
        simp only [List.getElem?_toArray, List.getElem?_cons_zero, List.getElem?_cons_succ] at z0 z1 z2 z3 z4 z5 z6 z7 z8 z9 z10 z11 z12
        have fz0 := frozenAt dd.h 0
        have fz1 := frozenAt dd.h 1
        have fz2 := frozenAt dd.h 2
        have fz3 := frozenAt dd.h 3
        have fz4 := frozenAt dd.h 4
        have fz5 := frozenAt dd.h 5
        have fz6 := frozenAt dd.h 6
        have fz7 := frozenAt dd.h 7
        have fz8 := frozenAt dd.h 8
        have fz9 := frozenAt dd.h 9
        have fz10 := frozenAt dd.h 10
        have fz11 := frozenAt dd.h 11
        have fz12 := frozenAt dd.h 12
        have hne1 : w7.heap.size + 1 ≠ w8.heap.size := by omega
        have FIN := finNil as8 r8 m8 o8 n8 dd (by omega) (by omega) (by omega) (by omega) (by omega) (by omega)
        simp only [setAll, Nat.zero_add, Nat.reduceAdd] at FIN
        have HX := Lib.hid FIN
        clear r8 m8 o8 as8 n8 dd FIN
        subst hSt hRd hEr
        go_wp2_with fail
        go_meet
        obtain ⟨f1, f2, f3, f4, f5, f6, f7⟩ := HX.out
        exact ⟨none, none, 0, 0, rfl, rfl, f1, f2, f3, f4, f5, f6, by omega⟩
    case rest =>
      obtain ⟨xta, xna, xtc, xnc, rfl, rfl, r9, m9, o9, as9, n9, x9, s9⟩ := hcut
      clear H8
      have three : (Er = 4 ∧ F1 = 0 ∧ b < en ∧ R = Rep.none) ∨ (¬ Er = 4 ∧ F1 = Er ∧ w10 = R) := by
        have h1 := HIS.out.1
        have h2 := HIS.out.2.1
        have h3 := HIS.out.2.2
        rcases HCA.out.2 with ⟨hs, hRn, _, _, hEr⟩ | ⟨⟨sp', hs⟩, hRr, _, _, hEr⟩
        · right
          have hi1 := h1.2 hs
          rw [hi1, if_pos rfl] at h2 h3
          exact ⟨by omega, by omega, by rw [← h3, hRn]⟩
        · have hi1 : isn = false := by cases hq : isn with | false => rfl | true => exact absurd (h1.1 hq) (by rw [hs]; simp)
          rw [hi1, if_neg (by simp)] at h2 h3
          rcases HCA.out.1 with ⟨a1, a2, a3⟩ | ⟨a1, a2, a3, a4⟩
          · right
            exact ⟨by omega, by omega, by rw [← h3, hRr, a2]⟩
          · left
            exact ⟨by omega, by omega, by rw [← HBE.out.2]; exact a3, by rw [hRr, a4]⟩
      skip
      apply_assumption
      refine allTail (w := w) (by omega) (by omega) (by omega) (by omega) hlR (Lib.hid (And.intro HSE.out.2.1 HSE.out.2.2.1)) (Lib.hid ⟨fun j hj => (lT.out.1 j hj).1, fun j hj => (lT.out.2 j hj).1⟩) (Lib.hid (fun e he => ⟨fun j hj => by have := (lE.out e he).1 j hj; omega, fun j hj => by have := (lE.out e he).2 j hj; omega⟩)) CE three r9 m9 o9 as9 n9 x9 ?_
      rintro a' w' ⟨v19, v20, v21, v114, v115, v116, v117, v118, v119, v120, v121, v122, v123, v124, v125, v126, v127, v128, v129, v130, v131, v132, v133, v134, v135, v136, v137, v138, v139, v140, v141, v142, v143, v144, v145, v146, v147, v148, v149, v150, v151, v152, v153, v154, v155, v156, v157, v158, v159, v160, v161, ⟨nws, h1, h2, h3⟩, rfl⟩
      have H13 := Lib.hid (And.intro h1 (And.intro h2 h3))
      clear h1 h2 h3 r9 m9 o9 as9 n9 x9 three
      first
        | exact HQ.out _ _ _ _ _ _ _ _ _ _ _ _ _ _ _ _ _ _ _ _ _ _ _ _ _ _ _ _ _ _ _ _ _ _ _ _ _ _ _ _ _ _ _ _ _ _ _ _ _ _ _ _ _ _ _ _ _ _ _ _ _ _ _ _ _ _ _ _ _ _ _ _ _ _ _ _ _ _ _ _ _ _ _ _ _ _ _ _ _ _ _ _ _ _ _ _ _ _ _ _ nws H13.out.1 H13.out.2.1 H13.out.2.2
        | (go_wp2
           exact HQ.out _ _ _ _ _ _ _ _ _ _ _ _ _ _ _ _ _ _ _ _ _ _ _ _ _ _ _ _ _ _ _ _ _ _ _ _ _ _ _ _ _ _ _ _ _ _ _ _ _ _ _ _ _ _ _ _ _ _ _ _ _ _ _ _ _ _ _ _ _ _ _ _ _ _ _ _ _ _ _ _ _ _ _ _ _ _ _ _ _ _ _ _ _ _ _ _ _ _ _ _ nws H13.out.1 H13.out.2.1 H13.out.2.2)
end Go.Proofs.YteibjmlimcpaoaaGreatDoor.V
