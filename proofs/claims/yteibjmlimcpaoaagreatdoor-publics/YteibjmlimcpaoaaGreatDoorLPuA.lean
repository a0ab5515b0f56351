/-
  visorref.Public and visor.Public, of every policy and every file: the same list of yes and no, in new memory.
-/
import Derived.Test.YteibjmlimcpaoaaGreatDoorLBbA
import Derived.Test.YteibjmlimcpaoaaGreatDoorRvU
import Derived.Test.YteibjmlimcpaoaaGreatDoorWg
set_option linter.unusedVariables false
set_option linter.unusedSimpArgs false
namespace Go.Proofs.YteibjmlimcpaoaaGreatDoor.V
open Go.RowKit Go.Sort
open Go.Proofs.YteibjmlimcpaoaaGreatDoor.W (at_below at_alloc new_at below_alloc strV PolIs pv BoolsAt Gl publicW)

theorem pub_len (P : Pol) (D : List UInt8) (L : List Bool) (er : Int) (hr : pubOf P D = (L, er)) : L.length ≤ 2000 := by
  by_cases h1 : P.ok = false
  · unfold pubOf at hr
    rw [if_pos h1] at hr
    cases hr
    simp
  · by_cases h2 : 2000 < D.length
    · unfold pubOf at hr
      rw [if_neg h1, if_pos h2] at hr
      cases hr
      simp
    · rw [pubOf_eq P D (by cases hq : P.ok <;> simp_all) (by omega)] at hr
      cases hr
      have := pub_get D.length (dirOf P D) (nsOf P D) 2000
      rw [if_neg (by omega)] at this
      exact List.getElem?_eq_none_iff.1 this
theorem own_bools {B g : Nat} {L : List Bool} {w : World} (h : BoolsAt g L w) (hB : B ≤ g) (hl : L.length ≤ 2000) : OwnB B w (.slice (some ⟨g, 0, none⟩) L.length L.length) L := by
  refine ⟨by simp, .inr ⟨g, L.length, _, rfl, hB, h, Nat.le_refl _, ?_, by simp, ?_⟩⟩
  · unfold maxLen
    omega
  · simp only [Nat.mul_one]
    exact List.take_of_length_le (by simp)
theorem own_none {B : Nat} {w : World} : OwnB B w (.slice none 0 0) [] := World.ownsRow_nil _ _ _ _
/-- visor.Public, of every policy and every file -/
theorem publicO (P : Pol) (T I : Value) (D : List UInt8) (w : World) (hD : D.length ≤ 9223372036854775807) (hp : PolIs P T I w) (hg : Gl w) (htab : w.cell? ⟨7, 15, none⟩ = some (.int .u8 4)) (L : List Bool) (er : Int) (hr : pubOf P D = (L, er)) :
    Calls Tryz.prog 22 #[pv T I P.text, strV D] w fun e w' => ∃ V, e = .returned (.tuple #[V, .int .i64 er]) ∧ OwnB w.heap.size w' V L ∧ Below w.heap.size w w' := by
  refine (publicW P T I D w hD hp hg htab L er hr).mono ?_
  rintro e w' ⟨V, rfl, h1, h2, hb⟩
  refine ⟨V, rfl, ?_, hb⟩
  by_cases h0 : er = 0
  · obtain ⟨g, rfl, hs, hB⟩ := h2 h0
    exact own_bools hB hs (pub_len P D L er hr)
  · obtain ⟨rfl, rfl⟩ := h1 h0
    exact own_none
/-- visorref.Public, of every policy and every file -/
theorem publicD (P : Pol) (T I : Value) (D : List UInt8) (w : World) (hD : D.length ≤ 9223372036854775807) (hp : PolIs P T I w) (L : List Bool) (er : Int) (hr : pubOf P D = (L, er)) :
    Calls Tryz.prog 20 #[pv T I P.text, strV D] w fun e w' => ∃ V, e = .returned (.tuple #[V, .int .i64 er]) ∧ OwnB w.heap.size w' V L ∧ Below w.heap.size w w' := by
  by_cases h1 : P.ok = false
  · unfold pubOf at hr
    rw [if_pos h1] at hr
    cases hr
    refine (publicRno P T I D w hp hD 2 (by rw [if_pos h1]) (by decide)).mono ?_
    rintro e w' ⟨rfl, hb⟩
    exact ⟨_, rfl, own_none, hb⟩
  · by_cases h2 : 2000 < D.length
    · unfold pubOf at hr
      rw [if_neg h1, if_pos h2] at hr
      cases hr
      refine (publicRno P T I D w hp hD 3 (by rw [if_neg h1, if_pos h2]) (by decide)).mono ?_
      rintro e w' ⟨rfl, hb⟩
      exact ⟨_, rfl, own_none, hb⟩
    · have hp1 : P.ok = true := by cases hq : P.ok <;> simp_all
      have hl := pub_len P D L er hr
      rw [pubOf_eq P D hp1 (by omega), ← doc_pub] at hr
      cases hr
      refine (publicR P T I D w hp hp1 (by omega) _ rfl).mono ?_
      rintro e w' ⟨g, rfl, hs, hB, hb⟩
      refine ⟨_, rfl, ?_, hb⟩
      have hlen : (docP P D).length = D.length := by
        rw [doc_pub]
        have a1 := pub_get D.length (dirOf P D) (nsOf P D) D.length
        rw [if_neg (by omega)] at a1
        have a2 := List.getElem?_eq_none_iff.1 a1
        by_cases hz : D.length = 0
        · omega
        · have a3 := pub_get D.length (dirOf P D) (nsOf P D) (D.length - 1)
          rw [if_pos (by omega)] at a3
          have := (List.getElem?_eq_some_iff.1 a3).1
          omega
      rw [← hlen]
      exact own_bools hB hs hl
end Go.Proofs.YteibjmlimcpaoaaGreatDoor.V
