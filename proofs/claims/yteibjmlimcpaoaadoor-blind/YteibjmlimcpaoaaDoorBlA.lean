/-
  For the law Blind: a file's bytes in memory that may be written over; visorkeep.pick.
-/
import Derived.Test.YteibjmlimcpaoaaDoorWg
import Derived.Test.YteibjmlimcpaoaaDoorWf
import Derived.Test.YteibjmlimcpaoaaDoorKa
import Derived.Test.YteibjmlimcpaoaaDoorPa
import Derived.Test.YteibjmlimcpaoaaDoorDa
set_option linter.unusedVariables false
set_option linter.unusedSimpArgs false
namespace Go.Proofs.YteibjmlimcpaoaaDoor.W
open Go.RowKit Go.Sort

theorem setCell_rowF {w : World} {p i : Nat} {cs : Array Value} {T : TypeId} {fz : Nat × Nat} (h : w.heap[p]? = some (.cells cs T fz)) (v : Value) : (w.setCell ⟨p, i, none⟩ v).heap[p]? = some (.cells (cs.setIfInBounds i v) T fz) := by
  rw [setCell_eq_setRow w p i cs T fz v h]
  exact setRow_heap w p cs _ T _ h
/-- bytes that lie in a block of their own -/
def BytesIn (g : Nat) (E : List UInt8) (w : World) : Prop :=
  ∃ cs : Array Value, w.heap[g]? = some (.cells cs 5 (cs.size, cs.size + 1)) ∧ E.length ≤ cs.size ∧ ∀ (j : Nat) (a : UInt8), E[j]? = some a → cs[j]? = some (.int .u8 ((a.toNat : Nat) : Int))
theorem BytesIn.cell {g : Nat} {E : List UInt8} {w : World} (h : BytesIn g E w) {j : Nat} {a : UInt8} (hj : E[j]? = some a) : w.cell? ⟨g, j, none⟩ = some (.int .u8 ((a.toNat : Nat) : Int)) := by
  obtain ⟨cs, hh, _, hc⟩ := h
  rw [cellsAt hh]
  exact hc j a hj
theorem BytesIn.free {g : Nat} {E : List UInt8} {w : World} (h : BytesIn g E w) {j : Nat} (hj : j < E.length) : w.frozen? ⟨g, j, none⟩ = false := by
  obtain ⟨cs, hh, hl, _⟩ := h
  simp [World.frozen?, hh]
  omega
theorem BytesIn.set {g : Nat} {E : List UInt8} {w : World} (h : BytesIn g E w) {i : Nat} (hi : i < E.length) (a : UInt8) : BytesIn g (E.set i a) (w.setCell ⟨g, i, none⟩ (.int .u8 ((a.toNat : Nat) : Int))) := by
  obtain ⟨cs, hh, hl, hc⟩ := h
  refine ⟨cs.setIfInBounds i (.int .u8 ((a.toNat : Nat) : Int)), ?_, by simpa using hl, ?_⟩
  · have := setCell_rowF (i := i) hh (.int .u8 ((a.toNat : Nat) : Int))
    simpa using this
  · intro j b hj
    rw [List.getElem?_set] at hj
    by_cases e : i = j
    · subst e
      rw [if_pos rfl, if_pos hi] at hj
      cases hj
      rw [Array.getElem?_setIfInBounds, if_pos rfl, if_pos (by omega)]
    · rw [if_neg e] at hj
      rw [Array.getElem?_setIfInBounds, if_neg e]
      exact hc j b hj
theorem BytesIn.on {g : Nat} {E : List UInt8} {w w' : World} (h : BytesIn g E w) (hb : Below w.heap.size w w') : BytesIn g E w' := by
  obtain ⟨cs, hh, hl, hc⟩ := h
  exact ⟨cs, at_below hh hb, hl, hc⟩
theorem conv_in (w : World) (t : List UInt8) : ∃ cap w2, (convert 9 62 (.string ⟨t.toArray⟩)).run Tryd.prog w = .ok (.slice (some ⟨w.heap.size, 0, none⟩) t.length cap) w2 ∧ Below w.heap.size w w2 ∧ BytesIn w.heap.size t w2 := by
  have h := run_bytes_of_string (P := Tryd.prog) w 9 62 5 ⟨t.toArray⟩ Tryd.underlying9 Tryd.underlying62 Tryd.underlying5
  have hz : (ByteArray.mk t.toArray).size = t.length := by show Array.size _ = _; simp
  refine ⟨_, _, by rw [h, hz], (Below.refl _ _).drew.alloc (Nat.le_refl _) _, ?_⟩
  refine ⟨_, new_at w.drew _, ?_, ?_⟩
  · simp [bytesRow]
  · intro j a hj
    have hlt : j < t.length := (List.getElem?_eq_some_iff.1 hj).1
    have he : t[j] = a := Option.some.inj ((List.getElem?_eq_getElem hlt).symm.trans hj)
    rw [bytesRow_at _ _ _ (by simpa using hlt)]
    simp [he]
theorem addr_addB (b o j : Nat) : (⟨b, o, none⟩ : Addr).add j = ⟨b, o + j, none⟩ := by simp [Addr.add]
theorem conv_out (w : World) (g : Nat) (E : List UInt8) (cap : Nat) (h : BytesIn g E w) : (convert 62 9 (.slice (some ⟨g, 0, none⟩) E.length cap)).run Tryd.prog w = .ok (.string ⟨E.toArray⟩) w := by
  refine run_convert_bytes_back _ 62 9 5 ⟨g, 0, none⟩ _ E Tryd.underlying62 Tryd.underlying5 Tryd.underlying9 ?_
  intro j hj
  have := h.cell (List.getElem?_eq_getElem hj)
  rw [addr_addB, Nat.zero_add]
  exact this

theorem ret_intB {k : IntKind} {a b : Int} (h : a = b) : Ending.returned (.int k a) = .returned (.int k b) := by rw [h]
set_option maxRecDepth 100000 in
set_option maxHeartbeats 1000000 in
theorem pickN (c N : Int) (w : World) (h0 : -9223372036854775808 ≤ c) (h1 : c ≤ 9223372036854775807) (hN : 0 < N) (hN2 : N ≤ 1000000) :
    Calls Tryd.prog 11 #[.int .i64 c, .int .i64 N] w fun e w' => ∃ m : Int, 0 ≤ m ∧ m < N ∧ e = .returned (.int .i64 m) ∧ w' = w := by
  have hne : ¬ N = 0 := by omega
  have hne1 : ¬ N = -1 := by omega
  by_cases hc : c < 0
  · have hm : (-(c + 1)).tmod N = (-(c + 1)) % N := Int.tmod_eq_emod_of_nonneg (by omega)
    have m0 := Int.emod_nonneg (-(c + 1)) hne
    have m1 := Int.emod_lt_of_pos (-(c + 1)) hN
    go_enter Tryd.func11, Tryd.ntmps11
    go_wp2
    go_ret
    refine ⟨(-(c + 1)) % N, m0, m1, ret_intB ?_, rfl⟩
    rw [← hm, Int.neg_tmod]
  · have hc' : 0 ≤ c := by omega
    have hm : c.tmod N = c % N := Int.tmod_eq_emod_of_nonneg hc'
    have m0 := Int.emod_nonneg c hne
    have m1 := Int.emod_lt_of_pos c hN
    go_enter Tryd.func11, Tryd.ntmps11
    go_wp2
    go_ret
    exact ⟨c % N, m0, m1, ret_intB (by rw [← hm]), rfl⟩
end Go.Proofs.YteibjmlimcpaoaaDoor.W
