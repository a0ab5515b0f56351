/-
  The law All: a round's tail, behind 'if s == nil': a theorem of its own.
-/
import Derived.Test.YteibjmlimcpaoaaGreatDoorLAlA
import Derived.Deep.CutRange
set_option linter.unusedVariables false
set_option linter.unusedSimpArgs false
namespace Go.Proofs.YteibjmlimcpaoaaGreatDoor.V
open Go.RowKit Go.Sort
open Go.Proofs.YteibjmlimcpaoaaGreatDoor.W (at_below at_alloc new_at below_alloc PolIs pv strV Gl cell_lt inspectW sinspectW newW RowIs Ok1 ocells ocells_at OkOk)
def firstR : Code → Option Nat
  | .region j _ _ => some j
  | .seq a b => match firstR a with
    | some c => some c
    | none => firstR b
  | .block _ c => firstR c
  | .loop c => firstR c
  | .scope c => firstR c
  | _ => none
def tailR (k : Nat) : Code → Option Code
  | .seq a b => match firstR a with
    | some j => match Nat.beq j k with
      | true => some (.seq a b)
      | false => match tailR k a with
        | some c => some c
        | none => tailR k b
    | none => match tailR k a with
      | some c => some c
      | none => tailR k b
  | .block _ c => tailR k c
  | .loop c => tailR k c
  | .scope c => tailR k c
  | .cond _ a b => match tailR k a with
    | some c => some c
    | none => tailR k b
  | _ => none
noncomputable def allT : Code := ((Tryz.f8.body.bind (tailR 28)).getD .skip)

set_option maxRecDepth 100000 in
set_option maxHeartbeats 60000000 in
theorem allTail {c0 c1 c2 c3 c4 c6 c8 c10 c15 c20 c21 c22 c23 c24 c25 c26 c27 c28 c29 c30 c31 c32 c33 c34 c35 c36 c37 c38 c39 c40 c41 c42 c43 c44 c45 c46 c47 c48 c49 c50 c51 c52 c53 c54 c55 c56 c57 c58 c59 c60 c61 c62 c63 c64 c65 c66 c67 c68 c69 c70 c71 c72 c73 c74 c75 c76 c77 c78 c79 c80 c81 c82 c83 c84 c85 c86 c87 c88 c89 c90 c91 c92 c93 c94 c95 c96 c97 c98 c99 c100 c101 c102 c103 c104 c105 c106 c107 c108 c109 c110 c111 c112 c113 c114 c115 c116 c117 c118 c119 c120 c121 c122 c123 c124 c125 c126 c127 c128 c129 c130 c131 c132 c133 c134 c135 c136 c137 c138 c139 c140 c141 c142 c143 c144 c145 c146 c147 c148 c149 c150 c151 c152 c153 c154 c155 c156 c157 c158 c159 c160 c161 : Value} {w wc : World} {k bb ko kr km kn kd B4 B7 : Nat} {ss2 : List Value} {V : Value} {es : List Ent} {P : Pol} {pa ia ta na xta xna : Option Addr} {pcc ic tc nc xtc xnc : Nat} {S : ByteArray} {oW ob b en Er F1 : Int} {big new nil : Bool} {R w10 : Rep} {St Rd : Nat} {Q' : Exit → Act → World → Prop}
    (hk : k ≤ 1466015503658) (hwB : w.heap.size ≤ B4) (hwd : w.heap.size ≤ kd) (hrd : kr ≠ kd) (hlR : R.lt.length ≤ 16 ∧ R.ln.length ≤ 20)
    (HSE : Hid (es.length = 4 * k ∧ ∀ (e : Ent), e ∈ es → e.q ≤ k))
    (lT : Hid ((∀ (j : Nat), (Value.slice ta R.lt.length tc).ownBlock = some j → B4 ≤ j) ∧ ∀ (j : Nat), (Value.slice na R.ln.length nc).ownBlock = some j → B4 ≤ j))
    (lE : Hid (∀ (e : Ent), e ∈ es → (∀ (j : Nat), e.T.ownBlock = some j → j < B4) ∧ ∀ (j : Nat), e.N.ownBlock = some j → j < B4))
    (CE : Hid (∀ (x : World), Calls Tryz.prog 13 #[.string S] x fun e w' => e = .returned (.int .i64 en) ∧ w' = x))
    (three : (Er = 4 ∧ F1 = 0 ∧ b < en ∧ R = Rep.none) ∨ (¬ Er = 4 ∧ F1 = Er ∧ w10 = R))
    (r9 : RpAt B4 kr R (.slice ta R.lt.length tc) (.slice na R.ln.length nc) wc) (m9 : wc.heap[km]? = some (.cells #[.int .i64 (St : Int), .int .i64 (Rd : Int)] 41 (0, 0))) (o9 : wc.heap[ko]? = some (.cells #[.int .i64 oW, .int .i64 ob, .bool big, .bool new, .bool nil, .slice pa P.tags.length pcc, .slice ia P.ids.length ic, .int .i64 P.text, .string S] 83 (0, 0))) (as9 : AS w bb k ss2 V es wc) (n9 : wc.heap[kn]? = some (.cells #[.int .i64 (St : Int), .int .i64 (Rd : Int)] 41 (0, 0))) (x9 : RpAt B7 kd w10 (.slice xta w10.lt.length xtc) (.slice xna w10.ln.length xnc) wc)
    (hQ : ∀ (a' : Act) (w' : World), (∃ (v19 v20 v21 v114 v115 v116 v117 v118 v119 v120 v121 v122 v123 v124 v125 v126 v127 v128 v129 v130 v131 v132 v133 v134 v135 v136 v137 v138 v139 v140 v141 v142 v143 v144 v145 v146 v147 v148 v149 v150 v151 v152 v153 v154 v155 v156 v157 v158 v159 v160 v161 : Value), (∃ nws : List Ent, AS w bb (k + 1) ss2 V (es ++ nws) w' ∧ (∀ e ∈ es ++ nws, e.q ≤ k + 1) ∧ (es ++ nws).length = 4 * (k + 1)) ∧ a' = ⟨(c0 :: c1 :: c2 :: c3 :: c4 :: .pointer (some ⟨bb, 0, none⟩) :: c6 :: .pointer (some ⟨ko, 0, none⟩) :: c8 :: .int .i64 b :: c10 :: .pointer (some ⟨kr, 0, none⟩) :: .pointer (some ⟨km, 0, none⟩) :: .int .i64 Er :: .bool true :: c15 :: .pointer (some ⟨kn, 0, none⟩) :: .int .i64 Er :: .pointer (some ⟨kd, 0, none⟩) :: v19 :: v20 :: v21 :: c22 :: c23 :: c24 :: c25 :: c26 :: c27 :: c28 :: c29 :: c30 :: c31 :: c32 :: c33 :: c34 :: c35 :: c36 :: c37 :: c38 :: c39 :: c40 :: c41 :: c42 :: c43 :: c44 :: c45 :: c46 :: c47 :: c48 :: c49 :: c50 :: c51 :: c52 :: c53 :: c54 :: c55 :: c56 :: c57 :: c58 :: c59 :: c60 :: c61 :: c62 :: c63 :: c64 :: c65 :: c66 :: c67 :: c68 :: c69 :: c70 :: c71 :: c72 :: c73 :: c74 :: c75 :: c76 :: c77 :: c78 :: c79 :: c80 :: c81 :: c82 :: c83 :: c84 :: c85 :: c86 :: c87 :: c88 :: c89 :: c90 :: c91 :: c92 :: c93 :: c94 :: c95 :: c96 :: c97 :: c98 :: c99 :: c100 :: c101 :: c102 :: c103 :: c104 :: c105 :: c106 :: c107 :: c108 :: c109 :: c110 :: c111 :: c112 :: c113 :: v114 :: v115 :: v116 :: v117 :: v118 :: v119 :: v120 :: v121 :: v122 :: v123 :: v124 :: v125 :: v126 :: v127 :: v128 :: v129 :: v130 :: v131 :: v132 :: v133 :: v134 :: v135 :: v136 :: v137 :: v138 :: v139 :: v140 :: v141 :: v142 :: v143 :: v144 :: v145 :: v146 :: v147 :: v148 :: v149 :: v150 :: v151 :: v152 :: v153 :: v154 :: v155 :: v156 :: v157 :: v158 :: v159 :: v160 :: v161 :: ([] : List Value)).toArray, []⟩) → Q' .normal a' w') :
    Code.wp Tryz.prog allT Q' ⟨(c0 :: c1 :: c2 :: c3 :: c4 :: .pointer (some ⟨bb, 0, none⟩) :: c6 :: .pointer (some ⟨ko, 0, none⟩) :: c8 :: .int .i64 b :: c10 :: .pointer (some ⟨kr, 0, none⟩) :: .pointer (some ⟨km, 0, none⟩) :: .int .i64 Er :: .bool true :: c15 :: .pointer (some ⟨kn, 0, none⟩) :: .int .i64 Er :: .pointer (some ⟨kd, 0, none⟩) :: .int .i64 F1 :: c20 :: c21 :: c22 :: c23 :: c24 :: c25 :: c26 :: c27 :: c28 :: c29 :: c30 :: c31 :: c32 :: c33 :: c34 :: c35 :: c36 :: c37 :: c38 :: c39 :: c40 :: c41 :: c42 :: c43 :: c44 :: c45 :: c46 :: c47 :: c48 :: c49 :: c50 :: c51 :: c52 :: c53 :: c54 :: c55 :: c56 :: c57 :: c58 :: c59 :: c60 :: c61 :: c62 :: c63 :: c64 :: c65 :: c66 :: c67 :: c68 :: c69 :: c70 :: c71 :: c72 :: c73 :: c74 :: c75 :: c76 :: c77 :: c78 :: c79 :: c80 :: c81 :: c82 :: c83 :: c84 :: c85 :: c86 :: c87 :: c88 :: c89 :: c90 :: c91 :: c92 :: c93 :: c94 :: c95 :: c96 :: c97 :: c98 :: c99 :: c100 :: c101 :: c102 :: c103 :: c104 :: c105 :: c106 :: c107 :: c108 :: c109 :: c110 :: c111 :: c112 :: c113 :: c114 :: c115 :: c116 :: c117 :: c118 :: c119 :: c120 :: c121 :: c122 :: c123 :: c124 :: c125 :: c126 :: c127 :: c128 :: c129 :: c130 :: c131 :: c132 :: c133 :: c134 :: c135 :: c136 :: c137 :: c138 :: c139 :: c140 :: c141 :: c142 :: c143 :: c144 :: c145 :: c146 :: c147 :: c148 :: c149 :: c150 :: c151 :: c152 :: c153 :: c154 :: c155 :: c156 :: c157 :: c158 :: c159 :: c160 :: c161 :: ([] : List Value)).toArray, []⟩ wc := by
  have HQ := Lib.hid hQ
  clear hQ
  conv => arg 2; whnf
  obtain ⟨q3, hq3⟩ : ∃ q : Bool, (q = true ↔ Er = 4) := ⟨decide (Er = 4), by simp⟩
  have HQ3 := Lib.hid (And.intro hq3 three)
  clear hq3 three
  have H9 := Lib.hid (And.intro r9 (And.intro m9 (And.intro o9 (And.intro as9 (And.intro n9 x9)))))
  have x8 := cellsAt o9 8
  simp only [List.getElem?_toArray, List.getElem?_cons_zero, List.getElem?_cons_succ] at x8
  clear r9 m9 o9 as9 n9 x9
  obtain ⟨Wf, hWf⟩ : ∃ W, W = wc := ⟨_, rfl⟩
  subst hWf
  go_upto_region 28 with fail
  go_cut [126] from 114 to 161 (fun s126 wx => s126 = .bool q3 ∧ wx = Wf)
  case first =>
    rcases HQ3.out.2 with ⟨a1, a2, a3, _⟩ | ⟨a1, _, _⟩
    · obtain rfl : q3 = true := HQ3.out.1.2 a1
      clear HQ3
      subst a1 a2
      have d3 : b < en := a3
      go_wp2_with (go_at_call 13; refine (CE.out _).mono ?_; rintro e wq ⟨rfl, hwq⟩; have hwq := hwq.symm; subst hwq)
      go_meet
      exact ⟨rfl, rfl⟩
    · obtain rfl : q3 = false := by cases hq : q3 with | false => rfl | true => exact absurd (HQ3.out.1.1 hq) a1
      have d1 : (Er == 4) = false := beq_eq_false_iff_ne.2 a1
      have d2 : decide (Er = 4) = false := decide_eq_false a1
      go_wp2_with fail
      go_meet
      exact ⟨rfl, rfl⟩
  case rest =>
    obtain ⟨rfl, hwc⟩ := hcut
    subst hwc
    clear x8
    obtain ⟨Wg, hWg⟩ : ∃ W, W = wc := ⟨_, rfl⟩
    subst hWg
    go_upto_if 126 with fail
    go_cut [19] from 114 to 161 (fun s19 wx => ∃ (xta xna : Option Addr) (xtc xnc : Nat), s19 = .int .i64 Er ∧ RpAt B4 kr R (.slice ta R.lt.length tc) (.slice na R.ln.length nc) wx ∧ wx.heap[km]? = some (.cells #[.int .i64 (St : Int), .int .i64 (Rd : Int)] 41 (0, 0)) ∧ AS w bb k ss2 V es wx ∧ wx.heap[kn]? = some (.cells #[.int .i64 (St : Int), .int .i64 (Rd : Int)] 41 (0, 0)) ∧ RpAt B7 kd R (.slice xta R.lt.length xtc) (.slice xna R.ln.length xnc) wx)
    case first =>
      obtain ⟨r9, m9, o9, as9, n9, x9⟩ := H9.out
      cases q3 with
      | false =>
        rcases HQ3.out.2 with ⟨a1, _⟩ | ⟨_, a2, a3⟩
        · have := HQ3.out.1.2 a1; cases this
        · subst a2 a3
          have HX := Lib.hid (And.intro r9 (And.intro m9 (And.intro as9 (And.intro n9 x9))))
          clear r9 m9 o9 as9 n9 x9
          go_wp2_with fail
          go_meet
          exact ⟨xta, xna, xtc, xnc, rfl, HX.out.1, HX.out.2.1, HX.out.2.2.1, HX.out.2.2.2.1, HX.out.2.2.2.2⟩
      | true =>
        rcases HQ3.out.2 with ⟨a1, a2, _, a4⟩ | ⟨a1, _, _⟩
        · subst a1
          have z0 := cellsAt x9.h 0
          have z1 := cellsAt x9.h 1
          have z2 := cellsAt x9.h 2
          have z3 := cellsAt x9.h 3
          have z4 := cellsAt x9.h 4
          have z5 := cellsAt x9.h 5
          have z6 := cellsAt x9.h 6
          have z7 := cellsAt x9.h 7
          have z8 := cellsAt x9.h 8
          have z9 := cellsAt x9.h 9
          have z10 := cellsAt x9.h 10
          have z11 := cellsAt x9.h 11
          have z12 := cellsAt x9.h 12
          simp only [List.getElem?_toArray, List.getElem?_cons_zero, List.getElem?_cons_succ] at z0 z1 z2 z3 z4 z5 z6 z7 z8 z9 z10 z11 z12
          have fz0 := frozenAt x9.h 0
          have fz1 := frozenAt x9.h 1
          have fz2 := frozenAt x9.h 2
          have fz3 := frozenAt x9.h 3
          have fz4 := frozenAt x9.h 4
          have fz5 := frozenAt x9.h 5
          have fz6 := frozenAt x9.h 6
          have fz7 := frozenAt x9.h 7
          have fz8 := frozenAt x9.h 8
          have fz9 := frozenAt x9.h 9
          have fz10 := frozenAt x9.h 10
          have fz11 := frozenAt x9.h 11
          have fz12 := frozenAt x9.h 12
          have FIN := finRep as9 r9 m9 n9 x9 (by omega) (by omega)
          simp only [setAll, Nat.zero_add, Nat.reduceAdd] at FIN
          have HX := Lib.hid FIN
          clear r9 m9 o9 as9 n9 x9 FIN
          go_wp2_with fail
          go_meet
          obtain ⟨f1, f2, f3, f4, f5⟩ := HX.out
          subst a4
          exact ⟨none, none, 0, 0, rfl, f1, f2, f3, f4, f5⟩
        · exact absurd (HQ3.out.1.1 rfl) a1
    case rest =>
      obtain ⟨xta, xna, xtc, xnc, rfl, r10, m10, as10, n10, y10⟩ := hcut
      clear H9 HQ3
      obtain ⟨Wh, hWh⟩ : ∃ W, W = wc := ⟨_, rfl⟩
      subst hWh
      have C10 := Lib.hid (sameR18 R.kind R.hs R.hf R.hu R.rs R.rv R.rb R.nm R.cs R.cf R.cc (.slice ta R.lt.length tc) (.slice na R.ln.length nc) (.slice xta R.lt.length xtc) (.slice xna R.ln.length xnc) R.lt R.ln Wh (by omega) (by omega) (rowOfOwn r10.oT) (rowOfOwn r10.oN) (rowOfOwn y10.oT) (rowOfOwn y10.oN))
      have x0 := cellsAt r10.h 0
      have x1 := cellsAt r10.h 1
      have x2 := cellsAt r10.h 2
      have x3 := cellsAt r10.h 3
      have x4 := cellsAt r10.h 4
      have x5 := cellsAt r10.h 5
      have x6 := cellsAt r10.h 6
      have x7 := cellsAt r10.h 7
      have x8 := cellsAt r10.h 8
      have x9 := cellsAt r10.h 9
      have x10 := cellsAt r10.h 10
      have x11 := cellsAt r10.h 11
      have x12 := cellsAt r10.h 12
      simp only [List.getElem?_toArray, List.getElem?_cons_zero, List.getElem?_cons_succ] at x0 x1 x2 x3 x4 x5 x6 x7 x8 x9 x10 x11 x12
      have z0 := cellsAt y10.h 0
      have z1 := cellsAt y10.h 1
      have z2 := cellsAt y10.h 2
      have z3 := cellsAt y10.h 3
      have z4 := cellsAt y10.h 4
      have z5 := cellsAt y10.h 5
      have z6 := cellsAt y10.h 6
      have z7 := cellsAt y10.h 7
      have z8 := cellsAt y10.h 8
      have z9 := cellsAt y10.h 9
      have z10 := cellsAt y10.h 10
      have z11 := cellsAt y10.h 11
      have z12 := cellsAt y10.h 12
      simp only [List.getElem?_toArray, List.getElem?_cons_zero, List.getElem?_cons_succ] at z0 z1 z2 z3 z4 z5 z6 z7 z8 z9 z10 z11 z12
      have H10 := Lib.hid (And.intro r10 (And.intro m10 (And.intro as10 n10)))
      clear r10 m10 as10 n10 y10
      go_wp2_with (go_at_call 15; refine C10.out.mono ?_; rintro e w11 ⟨rfl, hb11⟩; refine Hid.out ?_)
      clear C10 x0 z0 x1 z1 x2 z2 x3 z3 x4 z4 x5 z5 x6 z6 x7 z7 x8 z8 x9 z9 x10 z10 x11 z11 x12 z12
      have r11 := H10.out.1.below hb11
      have m11 := at_below H10.out.2.1 hb11
      have as11 := H10.out.2.2.1.below hb11
      have n11 := at_below H10.out.2.2.2 hb11
      have C11 := Lib.hid (brep19 w.heap.size bb k es R (.slice ta R.lt.length tc) (.slice na R.ln.length nc) w11 as11.bw.size (by omega) (by have := HSE.out.1; omega) (by omega) (by omega) as11.bk (Go.Proofs.YteibjmlimcpaoaaGreatDoor.W.own_lower r11.oT (by omega)) (Go.Proofs.YteibjmlimcpaoaaGreatDoor.W.own_lower r11.oN (by omega)) (fun e he => ne_above' B4 lT.out.1 (lE.out e he).1) (fun e he => ne_above' B4 lT.out.2 (lE.out e he).2))
      unfold Rep.val at C11
      obtain ⟨cs11, hbb11⟩ := BookIs.box as11.bk
      have x0 := cellsAt r11.h 0
      have x1 := cellsAt r11.h 1
      have x2 := cellsAt r11.h 2
      have x3 := cellsAt r11.h 3
      have x4 := cellsAt r11.h 4
      have x5 := cellsAt r11.h 5
      have x6 := cellsAt r11.h 6
      have x7 := cellsAt r11.h 7
      have x8 := cellsAt r11.h 8
      have x9 := cellsAt r11.h 9
      have x10 := cellsAt r11.h 10
      have x11 := cellsAt r11.h 11
      have x12 := cellsAt r11.h 12
      simp only [List.getElem?_toArray, List.getElem?_cons_zero, List.getElem?_cons_succ] at x0 x1 x2 x3 x4 x5 x6 x7 x8 x9 x10 x11 x12
      have H11 := Lib.hid (And.intro r11 (And.intro m11 (And.intro as11 (And.intro n11 hbb11))))
      clear r11 m11 as11 n11 hbb11 hb11 H10
      refine Lib.hid ?_
      go_wp2_with (go_at_call 18; refine C11.out.mono ?_; rintro e w12 ⟨rfl, hbB, fr, nws, hln, bk2, hcn⟩; refine Hid.out ?_)
      clear C11 lT lE x0 x1 x2 x3 x4 x5 x6 x7 x8 x9 x10 x11 x12
      obtain ⟨r11, m11, as11, n11, hbb11⟩ := H11.out
      have m12 := fr_cell fr hbb11 r11 m11 (by decide)
      have n12 := fr_cell fr hbb11 r11 n11 (by decide)
      have as12 : AS w bb (k + 1) ss2 V (es ++ nws) w12 := ⟨as11.bw.trans hbB, own_frB as11.oS fr hbb11 (by decide) (ne_kindB as11.oS r11.oT (by decide)) (ne_kindB as11.oS r11.oN (by decide)), bk2⟩
      have hq2 : ∀ e ∈ es ++ nws, e.q ≤ k + 1 := fun e he => by rcases List.mem_append.1 he with h | h; have := HSE.out.2 e h; omega; have := (hcn e h).1; omega
      have hl2 : (es ++ nws).length = 4 * (k + 1) := by rw [List.length_append, hln, HSE.out.1]; omega
      have C12 := Lib.hid (still20 w.heap.size bb (k + 1) (es ++ nws) w12 (by omega) (fun e he => by have := hq2 e he; omega) as12.bk)
      have H12 := Lib.hid (And.intro m12 (And.intro n12 (And.intro as12 (And.intro hq2 hl2))))
      clear r11 m11 as11 n11 hbb11 fr hbB bk2 hcn hln m12 n12 as12 hq2 hl2 H11
      refine Lib.hid ?_
      go_wp2_with (go_at_call 19; refine C12.out.mono ?_; rintro e w13 ⟨rfl, hb13⟩; refine Hid.out ?_)
      have m13 := at_below H12.out.1 hb13
      have n13 := at_below H12.out.2.1 hb13
      have as13 := H12.out.2.2.1.below hb13
      have x0 := cellsAt m13 0
      have x1 := cellsAt m13 1
      simp only [List.getElem?_toArray, List.getElem?_cons_zero, List.getElem?_cons_succ] at x0 x1
      have z0 := cellsAt n13 0
      have z1 := cellsAt n13 1
      simp only [List.getElem?_toArray, List.getElem?_cons_zero, List.getElem?_cons_succ] at z0 z1
      have H13 := Lib.hid (And.intro as13 H12.out.2.2.2)
      clear m13 n13 as13 hb13 H12 C12
      refine Lib.hid ?_
      go_wp2
      refine HQ.out _ _ ⟨_, _, _, _, _, _, _, _, _, _, _, _, _, _, _, _, _, _, _, _, _, _, _, _, _, _, _, _, _, _, _, _, _, _, _, _, _, _, _, _, _, _, _, _, _, _, _, _, _, _, _, ?_, rfl⟩
      exact ⟨nws, H13.out.1, H13.out.2.1, H13.out.2.2⟩
end Go.Proofs.YteibjmlimcpaoaaGreatDoor.V
