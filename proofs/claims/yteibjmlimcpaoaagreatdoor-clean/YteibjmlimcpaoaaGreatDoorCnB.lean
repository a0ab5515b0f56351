/-
  The law Clean answers true, for every policy and file.
-/
import Derived.Test.YteibjmlimcpaoaaGreatDoorCnA
set_option linter.unusedVariables false
set_option linter.unusedSimpArgs false
namespace Go.Proofs.YteibjmlimcpaoaaGreatDoor.W
open Go.RowKit Go.Sort

theorem ok_lens {P : Pol} (h : P.ok = true) : P.tags.length ≤ 8 ∧ P.ids.length ≤ 8 := by
  unfold Pol.ok at h
  simp only [Bool.and_eq_true, decide_eq_true_eq] at h
  exact ⟨h.1.1.1.1, h.1.1.1.2⟩
theorem cleanK (P : Pol) (T I : Value) (D : List UInt8) (w : World) (hD : D.length ≤ 9223372036854775807) (hp : PolIs P T I w) (hg : Gl w) (htab : w.cell? ⟨7, 15, none⟩ = some (.int .u8 4)) (hu : Utabs w) (hK : KnownC) :
    Calls Tryz.prog 6 #[pv T I P.text, strV D] w fun e w' => e = .returned (.bool true) ∧ Below w.heap.size w w' := by
  by_cases h1 : P.ok = true
  · by_cases h2 : D.length ≤ 2000
    · have hS := steps_le P D
      have e1 : inspOf P D (64 * (D.length : Int) + 4096) = (repD P D, ((trD P D).length, rd (trD P D)), 0) := by
        rw [insp_eq P D _ h1 h2, if_pos (by omega)]
      have hl := ok_lens h1
      exact clean_ok P T I D w hD (by omega) hp hg htab hu hK (ok_text h1) hl.1 hl.2 (repD P D) _ _ (rep_ok P D) (rep_right P D h1 h2) e1
    · refine clean_bad P T I D w hD hp hg htab hK 3 (.inr rfl) (fun bb => ?_)
      unfold inspOf
      rw [if_neg (by simp [h1]), if_pos (by omega)]
  · refine clean_bad P T I D w hD hp hg htab hK 2 (.inl rfl) (fun bb => ?_)
    unfold inspOf
    rw [if_pos (by simpa using h1)]
end Go.Proofs.YteibjmlimcpaoaaGreatDoor.W
