/-
  The law Inspects: the region 13: r, m, e = visor.Inspect(policy, font, enough(font)), in every order.
-/
import Derived.Test.YteibjmlimcpaoaaGreatDoorLb
set_option linter.unusedVariables false
set_option linter.unusedSimpArgs false
namespace Go.Proofs.YteibjmlimcpaoaaGreatDoor.V
open Go.RowKit Go.Sort
open Go.Proofs.YteibjmlimcpaoaaGreatDoor.W (at_below at_alloc new_at below_alloc PolIs pv strV Gl cell_lt RowIs)

def findR13 (k : Nat) : Code → Option Code
  | .region j a f => match Nat.beq j k with
    | true => some (.region j a f)
    | false => none
  | .seq a b => match findR13 k a with
    | some c => some c
    | none => findR13 k b
  | .block _ c => findR13 k c
  | .loop c => findR13 k c
  | .scope c => findR13 k c
  | .cond _ a b => match findR13 k a with
    | some c => some c
    | none => findR13 k b
  | _ => none
noncomputable def insR13 : Code := ((Tryz.f3.body.bind (findR13 13)).getD .skip)

set_option maxRecDepth 100000 in
set_option maxHeartbeats 60000000 in
theorem reg13 {c0 c3 c4 c5 c6 c7 c8 c9 c10 c11 c12 c13 c14 c15 c16 c17 c18 c19 c20 c21 c22 c23 c24 c25 c26 c27 c28 c29 c30 c31 c32 c33 c34 c35 c36 c37 c38 c39 c40 c41 c42 c43 c44 c45 c46 c47 c48 c49 c50 c51 c52 c53 c54 c55 c56 c57 c58 c59 c60 c61 c62 c63 c64 c65 c66 c67 c68 c69 c70 c71 c72 c73 c74 c75 c76 c77 c78 c79 c80 c81 c82 c83 c84 c85 c86 c87 c88 c89 c90 c91 c92 c93 c94 c95 c96 c97 c98 c99 c100 c101 c102 c103 c104 c105 c106 c107 c108 c109 c110 c111 c112 c113 c114 c115 c116 c117 c118 c119 c120 c121 c122 c123 c124 c125 c126 c127 c128 c129 c130 c131 c132 c133 c134 c135 c136 c137 c138 c139 c140 c141 c142 c143 c144 c145 c146 c147 c148 c149 c150 c151 c152 : Value} {D : List UInt8} {r : Rep} {er b tx : Int} {st rd : Nat} {xa ya : Option Addr} {xn xc yn yc pb : Nat} {W : World} {K' : Act → World → Prop} {Q' : Exit → Act → World → Prop}
    (ln1 : r.lt.length ≤ 256) (ln2 : r.ln.length ≤ 256) (n1 : W.heap[pb]? = some (.cells #[.slice xa xn xc, .slice ya yn yc, .int .i64 tx] 25 (0, 0)))
    (CE : Hid (∀ (x : World), Calls Tryz.prog 13 #[.string ⟨D.toArray⟩] x fun e w' => e = .returned (.int .i64 b) ∧ w' = x))
    (CI : Hid (∀ (x : World), Below W.heap.size W x → Calls Tryz.prog 12 #[.agg #[.slice xa xn xc, .slice ya yn yc, .int .i64 tx], .string ⟨D.toArray⟩, .int .i64 b] x fun e w' => ∃ VA VB, e = .returned (.tuple #[.agg #[.int .i64 r.kind, VA, .int .i64 r.hs, .int .i64 r.hf, .int .i64 r.hu, .int .i64 r.rs, .int .i64 r.rv, .int .i64 r.rb, .int .i64 r.nm, VB, .int .i64 r.cs, .int .i64 r.cf, .int .i64 r.cc], .agg #[.int .i64 (st : Int), .int .i64 (rd : Int)], .int .i64 er]) ∧ w'.ownsRow x.heap.size 74 3 VA r.lt.length (tcells r.lt) ∧ w'.ownsRow x.heap.size 72 7 VB r.ln.length (ncells r.ln) ∧ Below x.heap.size x w'))
    (hK : ∀ (a' : Act) (w' : World), (∃ (v71 v72 v73 v74 v75 v76 v77 v78 v79 u1 u2 u3 : Value), (∃ (kk jj : Nat) (ta na : Option Addr) (tc nc : Nat), u1 = .pointer (some ⟨kk, 0, none⟩) ∧ u2 = .pointer (some ⟨jj, 0, none⟩) ∧ u3 = .int .i64 er ∧ Below W.heap.size W w' ∧ W.heap.size ≤ kk ∧ W.heap.size ≤ jj ∧ RpAt W.heap.size kk r (.slice ta r.lt.length tc) (.slice na r.ln.length nc) w' ∧ w'.heap[jj]? = some (.cells #[.int .i64 (st : Int), .int .i64 (rd : Int)] 41 (0, 0))) ∧ a' = ⟨(c0 :: .string ⟨D.toArray⟩ :: .pointer (some ⟨pb, 0, none⟩) :: c3 :: c4 :: c5 :: c6 :: c7 :: c8 :: c9 :: c10 :: c11 :: c12 :: c13 :: c14 :: c15 :: c16 :: c17 :: c18 :: c19 :: u1 :: u2 :: u3 :: c23 :: c24 :: c25 :: c26 :: c27 :: c28 :: c29 :: c30 :: c31 :: c32 :: c33 :: c34 :: c35 :: c36 :: c37 :: c38 :: c39 :: c40 :: c41 :: c42 :: c43 :: c44 :: c45 :: c46 :: c47 :: c48 :: c49 :: c50 :: c51 :: c52 :: c53 :: c54 :: c55 :: c56 :: c57 :: c58 :: c59 :: c60 :: c61 :: c62 :: c63 :: c64 :: c65 :: c66 :: c67 :: c68 :: c69 :: c70 :: v71 :: v72 :: v73 :: v74 :: v75 :: v76 :: v77 :: v78 :: v79 :: c80 :: c81 :: c82 :: c83 :: c84 :: c85 :: c86 :: c87 :: c88 :: c89 :: c90 :: c91 :: c92 :: c93 :: c94 :: c95 :: c96 :: c97 :: c98 :: c99 :: c100 :: c101 :: c102 :: c103 :: c104 :: c105 :: c106 :: c107 :: c108 :: c109 :: c110 :: c111 :: c112 :: c113 :: c114 :: c115 :: c116 :: c117 :: c118 :: c119 :: c120 :: c121 :: c122 :: c123 :: c124 :: c125 :: c126 :: c127 :: c128 :: c129 :: c130 :: c131 :: c132 :: c133 :: c134 :: c135 :: c136 :: c137 :: c138 :: c139 :: c140 :: c141 :: c142 :: c143 :: c144 :: c145 :: c146 :: c147 :: c148 :: c149 :: c150 :: c151 :: c152 :: ([] : List Value)).toArray, []⟩) → K' a' w') :
    Code.wp Tryz.prog insR13 (Exit.then K' Q') ⟨(c0 :: .string ⟨D.toArray⟩ :: .pointer (some ⟨pb, 0, none⟩) :: c3 :: c4 :: c5 :: c6 :: c7 :: c8 :: c9 :: c10 :: c11 :: c12 :: c13 :: c14 :: c15 :: c16 :: c17 :: c18 :: c19 :: c20 :: c21 :: c22 :: c23 :: c24 :: c25 :: c26 :: c27 :: c28 :: c29 :: c30 :: c31 :: c32 :: c33 :: c34 :: c35 :: c36 :: c37 :: c38 :: c39 :: c40 :: c41 :: c42 :: c43 :: c44 :: c45 :: c46 :: c47 :: c48 :: c49 :: c50 :: c51 :: c52 :: c53 :: c54 :: c55 :: c56 :: c57 :: c58 :: c59 :: c60 :: c61 :: c62 :: c63 :: c64 :: c65 :: c66 :: c67 :: c68 :: c69 :: c70 :: c71 :: c72 :: c73 :: c74 :: c75 :: c76 :: c77 :: c78 :: c79 :: c80 :: c81 :: c82 :: c83 :: c84 :: c85 :: c86 :: c87 :: c88 :: c89 :: c90 :: c91 :: c92 :: c93 :: c94 :: c95 :: c96 :: c97 :: c98 :: c99 :: c100 :: c101 :: c102 :: c103 :: c104 :: c105 :: c106 :: c107 :: c108 :: c109 :: c110 :: c111 :: c112 :: c113 :: c114 :: c115 :: c116 :: c117 :: c118 :: c119 :: c120 :: c121 :: c122 :: c123 :: c124 :: c125 :: c126 :: c127 :: c128 :: c129 :: c130 :: c131 :: c132 :: c133 :: c134 :: c135 :: c136 :: c137 :: c138 :: c139 :: c140 :: c141 :: c142 :: c143 :: c144 :: c145 :: c146 :: c147 :: c148 :: c149 :: c150 :: c151 :: c152 :: ([] : List Value)).toArray, []⟩ W := by
  have HK := Lib.hid hK
  clear hK
  conv => arg 2; whnf
  have y0 := cellsAt n1 0
  have y1 := cellsAt n1 1
  have y2 := cellsAt n1 2
  simp only [List.getElem?_toArray, List.getElem?_cons_zero, List.getElem?_cons_succ] at y0 y1 y2
  have N0 := Go.Proofs.YteibjmlimcpaoaaGreatDoor.W.Kx.start (W := W)
  have hne8 : ∀ j, W.heap.size ≤ j → ¬ (j = pb) := fun j a b => by have := (Array.getElem?_eq_some_iff.1 n1).1; omega
  have hne9 : ∀ j, W.heap.size ≤ j → ¬ (pb = j) := fun j a b => by have := (Array.getElem?_eq_some_iff.1 n1).1; omega
  go_region_held3 (fun w' => w'.cell? ⟨pb, 0, none⟩ = some (.slice xa xn xc) ∧ w'.cell? ⟨pb, 1, none⟩ = some (.slice ya yn yc) ∧ w'.cell? ⟨pb, 2, none⟩ = some (.int .i64 tx)) (go_keep) (first
    | (go_at_call 12; (first | (refine (CI.out _ (N0.drew).g).mono ?_; have N1 := N0.drew) | (refine (CI.out _ (N0.AD).g).mono ?_; have N1 := N0.AD) | (refine (CI.out _ (N0.BD).g).mono ?_; have N1 := N0.BD) | (refine (CI.out _ (N0.ABD).g).mono ?_; have N1 := N0.ABD) | (refine (CI.out _ (N0.BAD).g).mono ?_; have N1 := N0.BAD) | (refine (CI.out _ (N0.A.drew).g).mono ?_; have N1 := N0.A.drew) | (refine (CI.out _ (N0.B.drew).g).mono ?_; have N1 := N0.B.drew) | (refine (CI.out _ (N0.AB.drew).g).mono ?_; have N1 := N0.AB.drew) | (refine (CI.out _ (N0.BA.drew).g).mono ?_; have N1 := N0.BA.drew) | (refine (CI.out _ (N0).g).mono ?_; have N1 := N0) | (refine (CI.out _ (N0.A).g).mono ?_; have N1 := N0.A) | (refine (CI.out _ (N0.B).g).mono ?_; have N1 := N0.B) | (refine (CI.out _ (N0.AB).g).mono ?_; have N1 := N0.AB) | (refine (CI.out _ (N0.BA).g).mono ?_; have N1 := N0.BA)); rintro e w2 ⟨VA, VB, rfl, oA, oB, hb2⟩; obtain ⟨ta, tc, hVA⟩ := Go.Proofs.YteibjmlimcpaoaaGreatDoor.W.own_slice oA; subst hVA; obtain ⟨na, nc, hVB⟩ := Go.Proofs.YteibjmlimcpaoaaGreatDoor.W.own_slice oB; subst hVB; have oA1 := Go.Proofs.YteibjmlimcpaoaaGreatDoor.W.own_lower oA N1.g.size; have oB1 := Go.Proofs.YteibjmlimcpaoaaGreatDoor.W.own_lower oB N1.g.size; have N2 := N1.call hb2; clear oA oB N1; have zz2 := at_below n1 N2.g; have qz20 := cellsAt zz2 0; have qz21 := cellsAt zz2 1; have qz22 := cellsAt zz2 2; simp only [List.getElem?_toArray, List.getElem?_cons_zero, List.getElem?_cons_succ] at qz20 qz21 qz22; clear zz2; (try (have ha9 := (N2.a _ rfl).1; have ha8 := hne8 _ ha9; have ha7 := hne9 _ ha9; have za := (N2.a _ rfl).2; have ca0 := cellsAt za 0; have fa0 := frozenAt za 0; have ca1 := cellsAt za 1; have fa1 := frozenAt za 1; have ca2 := cellsAt za 2; have fa2 := frozenAt za 2; have ca3 := cellsAt za 3; have fa3 := frozenAt za 3; have ca4 := cellsAt za 4; have fa4 := frozenAt za 4; have ca5 := cellsAt za 5; have fa5 := frozenAt za 5; have ca6 := cellsAt za 6; have fa6 := frozenAt za 6; have ca7 := cellsAt za 7; have fa7 := frozenAt za 7; have ca8 := cellsAt za 8; have fa8 := frozenAt za 8; have ca9 := cellsAt za 9; have fa9 := frozenAt za 9; have ca10 := cellsAt za 10; have fa10 := frozenAt za 10; have ca11 := cellsAt za 11; have fa11 := frozenAt za 11; have ca12 := cellsAt za 12; have fa12 := frozenAt za 12; simp only [List.getElem?_toArray, List.getElem?_cons_zero, List.getElem?_cons_succ] at ca0 ca1 ca2 ca3 ca4 ca5 ca6 ca7 ca8 ca9 ca10 ca11 ca12)); (try (have hno : Go.Proofs.YteibjmlimcpaoaaGreatDoor.W.Kx W _ none w2 := N2; clear hno; have hl9 := Go.Proofs.YteibjmlimcpaoaaGreatDoor.W.at_lt za; have nl8 := Nat.ne_of_lt hl9; have nl7 := (Nat.ne_of_lt hl9).symm; have zaa := at_alloc (q := .cells #[.int .i64 0, .int .i64 0] 41) za; have da0 := cellsAt zaa 0; have ea0 := frozenAt zaa 0; have da1 := cellsAt zaa 1; have ea1 := frozenAt zaa 1; have da2 := cellsAt zaa 2; have ea2 := frozenAt zaa 2; have da3 := cellsAt zaa 3; have ea3 := frozenAt zaa 3; have da4 := cellsAt zaa 4; have ea4 := frozenAt zaa 4; have da5 := cellsAt zaa 5; have ea5 := frozenAt zaa 5; have da6 := cellsAt zaa 6; have ea6 := frozenAt zaa 6; have da7 := cellsAt zaa 7; have ea7 := frozenAt zaa 7; have da8 := cellsAt zaa 8; have ea8 := frozenAt zaa 8; have da9 := cellsAt zaa 9; have ea9 := frozenAt zaa 9; have da10 := cellsAt zaa 10; have ea10 := frozenAt zaa 10; have da11 := cellsAt zaa 11; have ea11 := frozenAt zaa 11; have da12 := cellsAt zaa 12; have ea12 := frozenAt zaa 12; simp only [List.getElem?_toArray, List.getElem?_cons_zero, List.getElem?_cons_succ] at da0 da1 da2 da3 da4 da5 da6 da7 da8 da9 da10 da11 da12)); (try (have hb9 := (N2.b _ rfl).1; have hb8 := hne8 _ hb9; have hb7 := hne9 _ hb9; have zb := (N2.b _ rfl).2; have cb0 := cellsAt zb 0; have cb1 := cellsAt zb 1; have fb0 := frozenAt zb 0; have fb1 := frozenAt zb 1; simp only [List.getElem?_toArray, List.getElem?_cons_zero, List.getElem?_cons_succ] at cb0 cb1)); (try (have hno : Go.Proofs.YteibjmlimcpaoaaGreatDoor.W.Kx W none _ w2 := N2; clear hno; have hl9 := Go.Proofs.YteibjmlimcpaoaaGreatDoor.W.at_lt zb; have nl8 := Nat.ne_of_lt hl9; have nl7 := (Nat.ne_of_lt hl9).symm; have zbb := at_alloc (q := .cells #[.int .i64 r.kind, .slice ta r.lt.length tc, .int .i64 r.hs, .int .i64 r.hf, .int .i64 r.hu, .int .i64 r.rs, .int .i64 r.rv, .int .i64 r.rb, .int .i64 r.nm, .slice na r.ln.length nc, .int .i64 r.cs, .int .i64 r.cf, .int .i64 r.cc] 39) zb; have db0 := cellsAt zbb 0; have db1 := cellsAt zbb 1; have eb0 := frozenAt zbb 0; have eb1 := frozenAt zbb 1; simp only [List.getElem?_toArray, List.getElem?_cons_zero, List.getElem?_cons_succ] at db0 db1)); (try (have hn1 := N2.ne; have hn2 := hn1.symm)); have hs8 := hne8 _ N2.g.size; have hs7 := hne9 _ N2.g.size; have ht8 := hne8 _ (Nat.le_succ_of_le N2.g.size); have ht7 := hne9 _ (Nat.le_succ_of_le N2.g.size); simp only [Nat.succ_eq_add_one, Nat.add_eq] at ht8 ht7; clear hb2; (try clear y0 y1 y2); (try clear hne8 hne9); (try clear CI); (try clear za); (try clear zaa); (try clear zb); (try clear zbb))
    | (go_at_call 13; refine (CE.out _).mono ?_; rintro e w1 ⟨rfl, hw1⟩; have hw1 := hw1.symm; subst hw1))
  all_goals (
    go_wp2_with fail
    refine HK.out _ _ ⟨_, _, _, _, _, _, _, _, _, _, _, _, ?_, rfl⟩
    first
      | (have hno : Go.Proofs.YteibjmlimcpaoaaGreatDoor.W.Kx W none none w2 := N2
         clear hno
         have sz2 := N2.g.size
         first
           | (refine ⟨w2.heap.size, w2.heap.size + 1, ta, na, tc, nc, by with_reducible rfl, by with_reducible rfl, rfl, ?_, sz2, by omega, ⟨?_, ?_, ?_⟩, ?_⟩
              · exact (N2.g.alloc N2.g.size _).alloc (by have := N2.g.size; simp; omega) _
              · exact at_alloc (new_at _ _)
              · exact own_any (own_any oA1 (below_alloc _ _)) (below_alloc _ _)
              · exact own_any (own_any oB1 (below_alloc _ _)) (below_alloc _ _)
              · exact K.new_at1 _ _ _)
           | (refine ⟨w2.heap.size + 1, w2.heap.size, ta, na, tc, nc, by with_reducible rfl, by with_reducible rfl, rfl, ?_, by omega, sz2, ⟨?_, ?_, ?_⟩, ?_⟩
              · exact (N2.g.alloc N2.g.size _).alloc (by have := N2.g.size; simp; omega) _
              · exact K.new_at1 _ _ _
              · exact own_any (own_any oA1 (below_alloc _ _)) (below_alloc _ _)
              · exact own_any (own_any oB1 (below_alloc _ _)) (below_alloc _ _)
              · exact at_alloc (new_at _ _)))
      | (have hno : Go.Proofs.YteibjmlimcpaoaaGreatDoor.W.Kx W (some _) none w2 := N2
         clear hno
         obtain ⟨z1, z2, z3, z4⟩ := Go.Proofs.YteibjmlimcpaoaaGreatDoor.W.end1 (W := W) [.int .i64 r.kind, .slice ta r.lt.length tc, .int .i64 r.hs, .int .i64 r.hf, .int .i64 r.hu, .int .i64 r.rs, .int .i64 r.rv, .int .i64 r.rb, .int .i64 r.nm, .slice na r.ln.length nc, .int .i64 r.cs, .int .i64 r.cf, .int .i64 r.cc] (N2.a _ rfl).2 rfl (N2.a _ rfl).1 N2.g
         have oA2 := oA1.kept z3 (.inr (own_kind_ne' oA1 (N2.a _ rfl).2 (by decide)))
         have oB2 := oB1.kept z3 (.inr (own_kind_ne' oB1 (N2.a _ rfl).2 (by decide)))
         simp only [setAll, Nat.zero_add, Nat.reduceAdd] at z1 z2 z3 z4 oA2 oB2
         exact ⟨_, _, ta, na, tc, nc, rfl, rfl, rfl, z2.alloc z2.size _, (N2.a _ rfl).1, N2.g.size, ⟨at_alloc z1, own_any oA2 (below_alloc _ _), own_any oB2 (below_alloc _ _)⟩, Go.Proofs.YteibjmlimcpaoaaGreatDoor.W.new_atN z4 _⟩)
      | (have hno : Go.Proofs.YteibjmlimcpaoaaGreatDoor.W.Kx W none (some _) w2 := N2
         clear hno
         obtain ⟨z1, z2, z3, z4⟩ := Go.Proofs.YteibjmlimcpaoaaGreatDoor.W.end1 (W := W) [.int .i64 (st : Int), .int .i64 (rd : Int)] (N2.b _ rfl).2 rfl (N2.b _ rfl).1 N2.g
         have oA2 := oA1.kept z3 (.inr (own_kind_ne' oA1 (N2.b _ rfl).2 (by decide)))
         have oB2 := oB1.kept z3 (.inr (own_kind_ne' oB1 (N2.b _ rfl).2 (by decide)))
         simp only [setAll, Nat.zero_add, Nat.reduceAdd] at z1 z2 z3 z4 oA2 oB2
         exact ⟨_, _, ta, na, tc, nc, rfl, rfl, rfl, z2.alloc z2.size _, N2.g.size, (N2.b _ rfl).1, ⟨Go.Proofs.YteibjmlimcpaoaaGreatDoor.W.new_atN z4 _, own_any oA2 (below_alloc _ _), own_any oB2 (below_alloc _ _)⟩, at_alloc z1⟩)
      | (have hno : Go.Proofs.YteibjmlimcpaoaaGreatDoor.W.Kx W (some _) (some _) w2 := N2
         clear hno
         obtain ⟨z1, z2, z3, z4, z5⟩ := Go.Proofs.YteibjmlimcpaoaaGreatDoor.W.endI (w := W) [.int .i64 r.kind, .slice ta r.lt.length tc, .int .i64 r.hs, .int .i64 r.hf, .int .i64 r.hu, .int .i64 r.rs, .int .i64 r.rv, .int .i64 r.rb, .int .i64 r.nm, .slice na r.ln.length nc, .int .i64 r.cs, .int .i64 r.cf, .int .i64 r.cc] [.int .i64 (st : Int), .int .i64 (rd : Int)] (N2.a _ rfl).2 (N2.b _ rfl).2 rfl rfl N2.ne (N2.a _ rfl).1 (N2.b _ rfl).1 N2.g
         have oA2 := (oA1.kept z4 (.inr (own_kind_ne' oA1 (N2.a _ rfl).2 (by decide)))).kept z5 (.inr (own_kind_ne' oA1 (N2.b _ rfl).2 (by decide)))
         have oB2 := (oB1.kept z4 (.inr (own_kind_ne' oB1 (N2.a _ rfl).2 (by decide)))).kept z5 (.inr (own_kind_ne' oB1 (N2.b _ rfl).2 (by decide)))
         simp only [setAll, Nat.zero_add, Nat.reduceAdd] at z1 z2 z3 z4 z5 oA2 oB2
         exact ⟨_, _, ta, na, tc, nc, rfl, rfl, rfl, z3, (N2.a _ rfl).1, (N2.b _ rfl).1, ⟨z1, oA2, oB2⟩, z2⟩))
end Go.Proofs.YteibjmlimcpaoaaGreatDoor.V
