/-
  The law Blind answers true, for every policy, file, other bytes and budget.
-/
import Derived.Test.YteibjmlimcpaoaaDoorBlB
set_option linter.unusedVariables false
set_option linter.unusedSimpArgs false
namespace Go.Proofs.YteibjmlimcpaoaaDoor.W
open Go.RowKit Go.Sort

theorem blindK (P : Pol) (T I : Value) (D : List UInt8) (os : List Int) (O : Value) (b : Int) (w : World) (hD : D.length ≤ 9223372036854775807) (hb0 : -9223372036854775808 ≤ b) (hb : b ≤ 9223372036854775807) (hp : PolIs P T I w) (hO : RowIs w O os.length (icells os)) (hos : os.length ≤ 9223372036854775807) (hg : Gl w) (htab : w.cell? ⟨7, 15, none⟩ = some (.int .u8 4)) (hK : Known) :
    Calls Tryd.prog 7 #[pv T I P.text, strV D, O, .int .i64 b] w fun e w' => e = .returned (.bool true) ∧ Below w.heap.size w w' := by
  have hOs : ∃ ao n c, O = .slice ao n c := by
    obtain ⟨ao, c, rfl, _⟩ := hO
    exact ⟨_, _, _, rfl⟩
  by_cases h1 : P.ok = true
  · by_cases h2 : D.length ≤ 2000
    · have hS := steps_le P D
      have e1 : inspOf P D (64 * (D.length : Int) + 4096) = (repD P D, ((trD P D).length, rd (trD P D)), 0) := by
        rw [insp_eq P D _ h1 h2, if_pos (by omega)]
      refine blind_ok P T I D os O b w h2 hb0 hb hp hO hos hg htab hK (pubL D.length (dirOf P D) (nsOf P D)) (pub_length _ _ _) (pubOf_eq P D h1 h2) ?_ (repD P D) _ _ e1
      intro E hE hj
      have := blind_pub P D E hE (fun i hi ht => by
        simp only [List.getD_eq_getElem?_getD]
        rw [hj i ht])
      exact ⟨this.1.trans (pubOf_eq P D h1 h2), this.2⟩
    · refine blind_bad P T I O D b w hD hp hOs hg htab hK 3 (.inr rfl) ?_
      unfold pubOf
      rw [if_neg (by simp [h1]), if_pos (by omega)]
  · refine blind_bad P T I O D b w hD hp hOs hg htab hK 2 (.inl rfl) ?_
    unfold pubOf
    rw [if_pos (by simpa using h1)]
end Go.Proofs.YteibjmlimcpaoaaDoor.W
