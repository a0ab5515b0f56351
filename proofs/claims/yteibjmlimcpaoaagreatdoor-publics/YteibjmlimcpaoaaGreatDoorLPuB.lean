/-
  What stays as it is through a round of the law Publics. No walk in it.
-/
import Derived.Test.YteibjmlimcpaoaaGreatDoorLBbB
import Derived.Test.YteibjmlimcpaoaaGreatDoorLc
set_option linter.unusedVariables false
set_option linter.unusedSimpArgs false
namespace Go.Proofs.YteibjmlimcpaoaaGreatDoor
open Go.RowKit Go.Sort
open Go.Proofs.YteibjmlimcpaoaaGreatDoor.W (at_below at_alloc new_at below_alloc PolIs)

theorem own_base {B B' e size n : Nat} {w : World} {v : Value} {xs : List Value} (h : w.ownsRow B' e size v n xs) (hB : B ≤ B') : w.ownsRow B e size v n xs := by
  obtain ⟨a, ⟨hv, h0⟩ | ⟨g, cap, cur, hv, hb, hr⟩⟩ := h
  · exact ⟨a, .inl ⟨hv, h0⟩⟩
  · exact ⟨a, .inr ⟨g, cap, cur, hv, Nat.le_trans hB hb, hr⟩⟩
theorem OwnB.base {B B' : Nat} {w : World} {v : Value} {xs : List Bool} (h : OwnB B' w v xs) (hB : B ≤ B') : OwnB B w v xs := own_base h hB
theorem OwnB.fr {B bb : Nat} {lO : Option Nat} {w w' : World} {v : Value} {xs : List Bool} {cs : Array Value} {fz : Nat × Nat} (h : OwnB B w v xs) (fr : FrB bb lO w w') (hbb : w.heap[bb]? = some (.cells cs 56 fz)) (hne : ∀ j, v.ownBlock = some j → some j ≠ lO) : OwnB B w' v xs := by
  obtain ⟨a, ⟨hv, h0⟩ | ⟨g, cap, cur, hv, hb, hg, hr⟩⟩ := h
  · exact ⟨a, .inl ⟨hv, h0⟩⟩
  · have hvb : v.ownBlock = some g := by rw [hv]; rfl
    have := fr g cur 4 (0, 0) hg (by rintro rfl; rw [hg] at hbb; cases hbb) (by decide) (hne g hvb)
    exact ⟨a, .inr ⟨g, cap, cur, hv, hb, this, hr⟩⟩
theorem OwnB.grown {B g : Nat} {w w' : World} {v : Value} {xs : List Bool} {cs : Array Value} {t : TypeId} {fz : Nat × Nat} (h : OwnB B w v xs) (hg : w.grownBy w' (some g)) (hk : w.heap[g]? = some (.cells cs t fz)) (h1 : t ≠ 4) : OwnB B w' v xs :=
  h.kept hg (.inr (own_kind_ne' h hk h1))
theorem BookB.below {B bb n : Nat} {es : List EnB} {w w' : World} (h : BookB B bb es n w) (hb : Below w.heap.size w w') : BookB B bb es n w' := by
  obtain ⟨hB, VB, VW, hq, oB, oW, hBW, hes⟩ := h
  exact ⟨hB, VB, VW, at_below hq hb, own_any oB hb, own_any oW hb, hBW, fun e he => ⟨own_any (hes e he).1 hb, own_any (hes e he).2 hb⟩⟩
theorem BookB.grown {B bb n g : Nat} {es : List EnB} {w w' : World} {cs : Array Value} {t : TypeId} {fz : Nat × Nat} (h : BookB B bb es n w) (hg : w.grownBy w' (some g)) (hk : w.heap[g]? = some (.cells cs t fz)) (h1 : t ≠ 4) (h2 : t ≠ 60) (h3 : t ≠ 56) : BookB B bb es n w' := by
  obtain ⟨hB, VB, VW, hq, oB, oW, hBW, hes⟩ := h
  exact ⟨hB, VB, VW, Go.Proofs.YteibjmlimcpaoaaGreatDoor.W.grown_at hg hq (by rintro rfl; rw [hk] at hq; cases hq; exact h3 rfl), oB.kept hg (.inr (own_kind_ne' oB hk h2)), oW.kept hg (.inr (own_kind_ne' oW hk h2)), hBW, fun e he => ⟨(hes e he).1.grown hg hk h1, (hes e he).2.grown hg hk h1⟩⟩
theorem BookB.box {B bb n : Nat} {es : List EnB} {w : World} (h : BookB B bb es n w) : ∃ cs, w.heap[bb]? = some (.cells cs 56 (0, 0)) := by
  obtain ⟨hB, VB, VW, hq, _⟩ := h
  exact ⟨_, hq⟩
theorem BookB.lt {B bb n : Nat} {es : List EnB} {w : World} (h : BookB B bb es n w) : ∀ e ∈ es, (∀ j, e.L.ownBlock = some j → j < w.heap.size) ∧ (∀ j, e.O.ownBlock = some j → j < w.heap.size) := by
  obtain ⟨hB, VB, VW, hq, _, _, _, hes⟩ := h
  exact fun e he => ⟨fun j hj => ((hes e he).1.lt j hj).2, fun j hj => ((hes e he).2.lt j hj).2⟩
/-- a new book -/
theorem BookB.new (w : World) : BookB w.heap.size w.heap.size [] 0 (w.alloc (.cells #[.slice none 0 0, .slice none 0 0, .slice none 0 0, .slice none 0 0, .slice none 0 0, .slice none 0 0, .int .i64 0] 56)) :=
  ⟨Nat.le_refl _, .slice none 0 0, .slice none 0 0, new_at _ _, World.ownsRow_nil _ _ _ _, World.ownsRow_nil _ _ _ _, fun j hj => (by cases hj), fun e he => (by cases he)⟩

end Go.Proofs.YteibjmlimcpaoaaGreatDoor
namespace Go.Proofs.YteibjmlimcpaoaaGreatDoor.V
open Go.RowKit Go.Sort
open Go.Proofs.YteibjmlimcpaoaaGreatDoor.W (at_below at_alloc new_at below_alloc PolIs)
theorem lent_isP {P : Pol} {gt gn : Nat} {ct cn : Array Value} {w : World} {T I : Value} (hp : PolIs P T I w) (hgt : w.heap[gt]? = some (.cells ct 9 (0, 0))) (hct : ct.toList = Go.Proofs.YteibjmlimcpaoaaGreatDoor.W.scells (P.tags ++ List.replicate 8 beyond)) (hgn : w.heap[gn]? = some (.cells cn 3 (0, 0))) (hcn : cn.toList = Go.Proofs.YteibjmlimcpaoaaGreatDoor.W.icells (P.ids ++ List.replicate 8 (-77))) :
    PolIs P (.slice (some ⟨gt, 0, none⟩) P.tags.length (P.tags.length + 8)) (.slice (some ⟨gn, 0, none⟩) P.ids.length (P.ids.length + 8)) w :=
  ⟨rowOfBlock hgt (by rw [hct]; unfold Go.Proofs.YteibjmlimcpaoaaGreatDoor.W.scells; rw [List.map_append]) (by simp [Go.Proofs.YteibjmlimcpaoaaGreatDoor.W.scells]), rowOfBlock hgn (by rw [hcn]; unfold Go.Proofs.YteibjmlimcpaoaaGreatDoor.W.icells; rw [List.map_append]) (by simp [Go.Proofs.YteibjmlimcpaoaaGreatDoor.W.icells]), hp.nt, hp.ni, hp.ts⟩


theorem ret_intQ {k : IntKind} {a b : Int} (h : a = b) : Ending.returned (.int k a) = .returned (.int k b) := by rw [h]
set_option maxRecDepth 100000 in
set_option maxHeartbeats 1000000 in
theorem pickP (c N : Int) (w : World) (h0 : -9223372036854775808 ≤ c) (h1 : c ≤ 9223372036854775807) (hN : 0 < N) (hN2 : N ≤ 9223372036854775807) :
    Calls Tryz.prog 21 #[.int .i64 c, .int .i64 N] w fun e w' => ∃ m : Nat, (m : Int) < N ∧ e = .returned (.int .i64 (m : Int)) ∧ w' = w := by
  have hne : ¬ N = 0 := by omega
  have hne1 : ¬ N = -1 := by omega
  by_cases hc : c < 0
  · have hm : (-(c + 1)).tmod N = (-(c + 1)) % N := Int.tmod_eq_emod_of_nonneg (by omega)
    have m0 := Int.emod_nonneg (-(c + 1)) hne
    have m1 := Int.emod_lt_of_pos (-(c + 1)) hN
    go_enter Tryz.func21, Tryz.ntmps21
    go_wp2
    go_ret
    refine ⟨((-(c + 1)) % N).toNat, by omega, ret_intQ ?_, rfl⟩
    rw [Int.toNat_of_nonneg m0, ← hm, Int.neg_tmod]
  · have hc' : 0 ≤ c := by omega
    have hm : c.tmod N = c % N := Int.tmod_eq_emod_of_nonneg hc'
    have m0 := Int.emod_nonneg c hne
    have m1 := Int.emod_lt_of_pos c hN
    go_enter Tryz.func21, Tryz.ntmps21
    go_wp2
    go_ret
    exact ⟨(c % N).toNat, by omega, ret_intQ (by rw [Int.toNat_of_nonneg m0, ← hm]), rfl⟩

/-- where the law stands: its policy, the document's list, the book -/
structure PS (w : World) (B bb B0 : Nat) (pc : Array Value) (L : List Bool) (M : Value) (es : List EnB) (n : Nat) (wr : World) : Prop where
  bw : Below w.heap.size w wr
  box : wr.heap[w.heap.size]? = some (.cells pc 25 (0, 0))
  om : OwnB B0 wr M L
  bk : BookB B bb es n wr
section
variable {w wr w' : World} {B bb B0 : Nat} {pc : Array Value} {L : List Bool} {M : Value} {es : List EnB} {n : Nat}
theorem PS.below (h : PS w B bb B0 pc L M es n wr) (hb : Below wr.heap.size wr w') : PS w B bb B0 pc L M es n w' :=
  ⟨h.bw.trans (hb.mono h.bw.size), at_below h.box hb, own_any h.om hb, h.bk.below hb⟩
theorem PS.grown {g : Nat} {cs : Array Value} {t : TypeId} {fz : Nat × Nat} (h : PS w B bb B0 pc L M es n wr) (hg : wr.grownBy w' (some g)) (hk : wr.heap[g]? = some (.cells cs t fz)) (hw : w.heap.size ≤ g) (h1 : t ≠ 4) (h2 : t ≠ 60) (h3 : t ≠ 56) (h4 : t ≠ 25) : PS w B bb B0 pc L M es n w' :=
  ⟨h.bw.grown hg h.bw.size (fun j hj => by cases hj; exact hw), Go.Proofs.YteibjmlimcpaoaaGreatDoor.W.grown_at hg h.box (by rintro rfl; have h5 := h.box; rw [hk] at h5; cases h5; exact h4 rfl), h.om.grown hg hk h1, h.bk.grown hg hk h1 h2 h3⟩
theorem PS.fr {v : Value} {xs : List Bool} {es' : List EnB} {n' : Nat} (h : PS w B bb B0 pc L M es n wr) (ov : OwnB B wr v xs) (hB : w.heap.size ≤ B) (hne : ∀ j, M.ownBlock = some j → some j ≠ v.ownBlock) (hb : Below B wr w') (fr : FrB bb v.ownBlock wr w') (bk : BookB B bb es' n' w') : PS w B bb B0 pc L M es' n' w' := by
  obtain ⟨cs, hq⟩ := h.bk.box
  refine ⟨h.bw.trans (hb.mono hB), fr _ _ _ _ h.box (by intro e; have h5 := h.box; rw [e, hq] at h5; cases h5) (by decide) (fun e => own_kind_ne' ov h.box (by decide) e.symm), h.om.fr fr hq hne, bk⟩
end
end Go.Proofs.YteibjmlimcpaoaaGreatDoor.V
