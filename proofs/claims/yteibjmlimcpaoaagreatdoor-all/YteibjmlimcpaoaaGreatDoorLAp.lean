/-
  What visor's Inspect answers of no session, what the law's own pick answers; what is told under any budget against what the document asks for.
-/
import Derived.Test.YteibjmlimcpaoaaGreatDoorLb
import Derived.Test.YteibjmlimcpaoaaGreatDoorLa
set_option linter.unusedVariables false
set_option linter.unusedSimpArgs false
namespace Go.Proofs.YteibjmlimcpaoaaGreatDoor.V
open Go.RowKit Go.Sort
open Go.Proofs.YteibjmlimcpaoaaGreatDoor.W (at_below at_alloc new_at below_alloc PolIs pv strV Gl cell_lt)

/-- under any budget: as the document asks, or ErrBudget alone where the steps may not be enough -/
theorem insp_any (P : Pol) (D : List UInt8) (b : Int) : ∃ r st rd er, inspOf P D b = (r, (st, rd), er) ∧ ((er = (askR P D).2 ∧ r = (askR P D).1 ∧ ¬ er = 4) ∨ (er = 4 ∧ (askR P D).2 = 0 ∧ b < 64 * (D.length : Int) + 4096 ∧ r = Rep.none)) := by
  unfold askR
  by_cases h1 : P.ok = false
  · rw [if_pos h1]
    refine ⟨_, 0, 0, 2, ?_, .inl ⟨rfl, rfl, by decide⟩⟩
    unfold inspOf
    rw [if_pos h1]
  · rw [if_neg h1]
    by_cases h2 : 2000 < D.length
    · rw [if_pos h2]
      refine ⟨_, 0, 0, 3, ?_, .inl ⟨rfl, rfl, by decide⟩⟩
      unfold inspOf
      rw [if_neg h1, if_pos h2]
    · rw [if_neg h2]
      have hp : P.ok = true := by cases hq : P.ok <;> simp_all
      have hs := steps_le P D
      have h := insp_eq P D b hp (by omega)
      by_cases h3 : (trD P D).length ≤ b.toNat
      · rw [if_pos h3, ← doc_is] at h
        exact ⟨_, _, _, 0, h, .inl ⟨rfl, rfl, by decide⟩⟩
      · rw [if_neg h3] at h
        exact ⟨_, _, _, 4, h, .inr ⟨rfl, rfl, by omega, rfl⟩⟩

theorem ret_intP {k : IntKind} {a b : Int} (h : a = b) : Ending.returned (.int k a) = .returned (.int k b) := by rw [h]
set_option maxRecDepth 100000 in
set_option maxHeartbeats 1000000 in
theorem pickV (c N : Int) (w : World) (h0 : -9223372036854775808 ≤ c) (h1 : c ≤ 9223372036854775807) (hN : 0 < N) (hN2 : N ≤ 9223372036854775807) :
    Calls Tryz.prog 21 #[.int .i64 c, .int .i64 N] w fun e w' => ∃ m : Nat, (m : Int) < N ∧ e = .returned (.int .i64 (m : Int)) ∧ w' = w := by
  have hne : ¬ N = 0 := by omega
  have hne1 : ¬ N = -1 := by omega
  by_cases hc : c < 0
  · have hm : (-(c + 1)).tmod N = (-(c + 1)) % N := Int.tmod_eq_emod_of_nonneg (by omega)
    have m0 := Int.emod_nonneg (-(c + 1)) hne
    have m1 := Int.emod_lt_of_pos (-(c + 1)) hN
    go_enter Tryz.func21, Tryz.ntmps21
    go_wp2
    go_ret
    refine ⟨((-(c + 1)) % N).toNat, by omega, ret_intP ?_, rfl⟩
    rw [Int.toNat_of_nonneg m0, ← hm, Int.neg_tmod]
  · have hc' : 0 ≤ c := by omega
    have hm : c.tmod N = c % N := Int.tmod_eq_emod_of_nonneg hc'
    have m0 := Int.emod_nonneg c hne
    have m1 := Int.emod_lt_of_pos c hN
    go_enter Tryz.func21, Tryz.ntmps21
    go_wp2
    go_ret
    exact ⟨(c % N).toNat, by omega, ret_intP (by rw [Int.toNat_of_nonneg m0, ← hm]), rfl⟩

theorem new_at3 (w : World) (o p q : Obj) : (((w.alloc o).alloc p).alloc q).heap[w.heap.size + 2]? = some q := by
  have := new_at ((w.alloc o).alloc p) q
  simpa using this
set_option maxRecDepth 100000 in
set_option maxHeartbeats 4000000 in
/-- no session -/
theorem sinspectNil (P : Pol) (T I : Value) (D : List UInt8) (b : Int) (w : World) (hp : PolIs P T I w) :
    Calls Tryz.prog 30 #[.pointer none, pv T I P.text, strV D, .int .i64 b] w fun e w' => e = .returned (.tuple #[.agg #[.int .i64 0, .slice none 0 0, .int .i64 0, .int .i64 0, .int .i64 0, .int .i64 0, .int .i64 0, .int .i64 0, .int .i64 0, .slice none 0 0, .int .i64 0, .int .i64 0, .int .i64 0], .agg #[.int .i64 0, .int .i64 0], .int .i64 1]) ∧ Below w.heap.size w w' := by
  obtain ⟨ta, tc, hTe, _⟩ := id hp.tags
  obtain ⟨ia, ic, hIe, _⟩ := id hp.ids
  subst hTe hIe
  obtain ⟨W, hW⟩ : ∃ W, ((w.alloc (.cells #[.slice ta P.tags.length tc, .slice ia P.ids.length ic, .int .i64 P.text] 25)).alloc (.cells #[.int .i64 0, .slice none 0 0, .int .i64 0, .int .i64 0, .int .i64 0, .int .i64 0, .int .i64 0, .int .i64 0, .int .i64 0, .slice none 0 0, .int .i64 0, .int .i64 0, .int .i64 0] 39)).alloc (.cells #[.int .i64 0, .int .i64 0] 41) = W := ⟨_, rfl⟩
  have hbW : Below w.heap.size w W := by rw [← hW]; exact ((below_alloc _ _).alloc (by simp) _).alloc (by simp; omega) _
  have n1 : W.heap[w.heap.size + 1]? = some (.cells #[.int .i64 0, .slice none 0 0, .int .i64 0, .int .i64 0, .int .i64 0, .int .i64 0, .int .i64 0, .int .i64 0, .int .i64 0, .slice none 0 0, .int .i64 0, .int .i64 0, .int .i64 0] 39 (0, 0)) := by rw [← hW]; exact at_alloc (new_at2 _ _ _)
  have n2 : W.heap[w.heap.size + 2]? = some (.cells #[.int .i64 0, .int .i64 0] 41 (0, 0)) := by rw [← hW]; exact new_at3 _ _ _ _
  have n2' : W.heap[w.heap.size + 1 + 1]? = some (.cells #[.int .i64 0, .int .i64 0] 41 (0, 0)) := n2
  obtain ⟨zr, zm, zb, zs1, zs2⟩ := Go.Proofs.YteibjmlimcpaoaaGreatDoor.W.endI (w := w) [.int .i64 0, .slice none 0 0, .int .i64 0, .int .i64 0, .int .i64 0, .int .i64 0, .int .i64 0, .int .i64 0, .int .i64 0, .slice none 0 0, .int .i64 0, .int .i64 0, .int .i64 0] [.int .i64 0, .int .i64 0] n1 n2 rfl rfl (by omega) (by omega) (by omega) hbW
  simp only [setAll, Nat.zero_add, Nat.reduceAdd] at zr zm zb zs1 zs2
  have a0 := cellsAt n1 0
  have f0 := frozenAt n1 0
  have v0 := cellsAt zr 0
  have a1 := cellsAt n1 1
  have f1 := frozenAt n1 1
  have v1 := cellsAt zr 1
  have a2 := cellsAt n1 2
  have f2 := frozenAt n1 2
  have v2 := cellsAt zr 2
  have a3 := cellsAt n1 3
  have f3 := frozenAt n1 3
  have v3 := cellsAt zr 3
  have a4 := cellsAt n1 4
  have f4 := frozenAt n1 4
  have v4 := cellsAt zr 4
  have a5 := cellsAt n1 5
  have f5 := frozenAt n1 5
  have v5 := cellsAt zr 5
  have a6 := cellsAt n1 6
  have f6 := frozenAt n1 6
  have v6 := cellsAt zr 6
  have a7 := cellsAt n1 7
  have f7 := frozenAt n1 7
  have v7 := cellsAt zr 7
  have a8 := cellsAt n1 8
  have f8 := frozenAt n1 8
  have v8 := cellsAt zr 8
  have a9 := cellsAt n1 9
  have f9 := frozenAt n1 9
  have v9 := cellsAt zr 9
  have a10 := cellsAt n1 10
  have f10 := frozenAt n1 10
  have v10 := cellsAt zr 10
  have a11 := cellsAt n1 11
  have f11 := frozenAt n1 11
  have v11 := cellsAt zr 11
  have a12 := cellsAt n1 12
  have f12 := frozenAt n1 12
  have v12 := cellsAt zr 12
  have b0 := cellsAt n2 0
  have b1 := cellsAt n2 1
  have g0 := frozenAt n2 0
  have g1 := frozenAt n2 1
  have o0 := cellsAt zm 0
  have o1 := cellsAt zm 1
  simp only [List.getElem?_toArray, List.getElem?_cons_zero, List.getElem?_cons_succ] at a0 a1 a2 a3 a4 a5 a6 a7 a8 a9 a10 a11 a12 v0 v1 v2 v3 v4 v5 v6 v7 v8 v9 v10 v11 v12 b0 b1 o0 o1
  have VV := Lib.hid (And.intro (And.intro v0 (And.intro v1 (And.intro v2 (And.intro v3 (And.intro v4 (And.intro v5 (And.intro v6 v7))))))) (And.intro (And.intro v8 (And.intro v9 (And.intro v10 (And.intro v11 v12)))) (And.intro (And.intro o0 o1) zb)))
  clear v0 v1 v2 v3 v4 v5 v6 v7 v8 v9 v10 v11 v12 o0 o1 zr zm zb zs1 zs2 n1 n2 n2' hp
  unfold pv strV
  go_enter Tryz.func30, Tryz.ntmps30
  go_wp2
  obtain ⟨⟨v0, v1, v2, v3, v4, v5, v6, v7⟩, ⟨v8, v9, v10, v11, v12⟩, ⟨o0, o1⟩, zb⟩ := VV.out
  exact bodyPost_ret (v := .tuple #[.agg #[.int .i64 0, .slice none 0 0, .int .i64 0, .int .i64 0, .int .i64 0, .int .i64 0, .int .i64 0, .int .i64 0, .int .i64 0, .slice none 0 0, .int .i64 0, .int .i64 0, .int .i64 0], .agg #[.int .i64 0, .int .i64 0], .int .i64 1]) (by simp [results, Tryz.results30, go_sem, v0, v1, v2, v3, v4, v5, v6, v7, v8, v9, v10, v11, v12, o0, o1]) rfl ⟨rfl, zb⟩
end Go.Proofs.YteibjmlimcpaoaaGreatDoor.V
