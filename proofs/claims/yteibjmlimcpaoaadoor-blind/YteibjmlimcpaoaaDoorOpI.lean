/-
  A list of ints that comes in, opened.
-/
import Derived.Test.YteibjmlimcpaoaaDoorLay
set_option linter.unusedVariables false
set_option linter.unusedSimpArgs false
namespace Go.Proofs.YteibjmlimcpaoaaDoor.W
open Go.ChangeShapes Go.WideShapes Go.ChangeAt Go.RowKit Go.Deep
section
variable {H : Type} {enc : TypeId × Value → H} {w : World}
set_option linter.constructorNameAsVariable false in
set_option maxRecDepth 100000 in
theorem open_intsV {v : Value} {d : DataW H} {ps : List MemPlace} {base : Nat} (hval : Value.okWide Tryd.prog w .any base 47 v) (h : DataW.Trod enc Tryd.prog w 0 (fun _ => true) true 47 v d ps) :
    ∃ (V : Value) (l : List Int), v = V ∧ RowIs w V l.length (icells l) ∧ l.length ≤ 9223372036854775807 ∧ ∀ i ∈ l, -9223372036854775808 ≤ i ∧ i ≤ 9223372036854775807 := by
  obtain ⟨fuel, hT⟩ := h
  obtain ⟨ao, n, c, rfl⟩ := okWide_slice Tryd.underlying47 hval
  obtain ⟨T, l, e, h1, h2, h3⟩ := open_ints hT
  cases e
  unfold maxLen at h2
  exact ⟨_, l, rfl, h1, by omega, h3⟩
end
end Go.Proofs.YteibjmlimcpaoaaDoor.W
