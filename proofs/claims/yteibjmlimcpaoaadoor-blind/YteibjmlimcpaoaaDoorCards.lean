/-
  DERIVED. GIVEN WITH THE SEED: THE CARDS: each row of YteibjmlimcpaoaaDoorRows.lean that lists a variable, with what it lists TIED to the program's text (the seventh form; the later family's looks); each row that meets fmt, with fmt's text TOLD by the authors' own Lean function (tested against real Go, not proved from fmt's source: count such statements apart). THE CARD IS WHAT COUNTS. Prove the row's statement (the work); the ties are given (YteibjmlimcpaoaaDoorTie.lean); close each card by the builder's one call (the guide's Derived/Test/ToyasCard.lean, 'card_holds'). Laid BY PROGRAM, IN A SANDBOX (cutbox-door.mjs). By AI agents, Wed Nov 11 2026. No macro, syntax, notation, axiom, sorry.
-/
import Derived.Test.YteibjmlimcpaoaaDoorRows
import GoSem.ClaimSeven
namespace Go.Proofs.YteibjmlimcpaoaaDoor
namespace Rows

/-- THE TIED CARD OF 'visorlaw.Texts'. -/
def textsCard : Claim7 := { stood := { row := textsRow, standIns := [], harness := (true, "1206af650e0ffbb36a1cedf7fc4fce3362c6a21e7942c1905e8d764d313a6f66"), looks := false }, kinds := [], alts := [], laidByText := true, laidKinds := [.data, .data, .data], laidTests := true, laidLooks := .later }
def TextsCardSaid : Prop := Claim7.holds Tryd.pinned (.plain (OpenSpec.ofChange textsSpec)) textsCard

/-- THE TIED CARD OF 'visorkeep.Told'. -/
def toldCard : Claim7 := { stood := { row := toldRow, standIns := [], harness := (true, "1206af650e0ffbb36a1cedf7fc4fce3362c6a21e7942c1905e8d764d313a6f66"), looks := false }, kinds := [], alts := [], laidByText := true, laidKinds := [.data, .data, .data], laidTests := true, laidLooks := .later }
def ToldCardSaid : Prop := Claim7.holds Tryd.pinned (.plain (OpenSpec.ofChange toldSpec)) toldCard

/-- THE TIED CARD OF 'visorlaw.Encodes'. -/
def encodesCard : Claim7 := { stood := { row := encodesRow, standIns := [], harness := (true, "1206af650e0ffbb36a1cedf7fc4fce3362c6a21e7942c1905e8d764d313a6f66"), looks := false }, kinds := [], alts := [], laidByText := true, laidKinds := [.data, .pinned], laidTests := true, laidLooks := .later }
def EncodesCardSaid : Prop := Claim7.holds Tryd.pinned (.plain (OpenSpec.ofChange encodesSpec)) encodesCard

/-- THE TIED CARD OF 'visorlaw.Decodes'. -/
def decodesCard : Claim7 := { stood := { row := decodesRow, standIns := [], harness := (true, "1206af650e0ffbb36a1cedf7fc4fce3362c6a21e7942c1905e8d764d313a6f66"), looks := false }, kinds := [], alts := [], laidByText := true, laidKinds := [.data, .pinned], laidTests := true, laidLooks := .later }
def DecodesCardSaid : Prop := Claim7.holds Tryd.pinned (.plain (OpenSpec.ofChange decodesSpec)) decodesCard

/-- THE TIED CARD OF 'visorkeep.Blind'. -/
def blindCard : Claim7 := { stood := { row := blindRow, standIns := [], harness := (true, "1206af650e0ffbb36a1cedf7fc4fce3362c6a21e7942c1905e8d764d313a6f66"), looks := false }, kinds := [], alts := [], laidByText := true, laidKinds := [.data, .data, .data, .data, .data, .data], laidTests := true, laidLooks := .later }
def BlindCardSaid : Prop := Claim7.holds Tryd.pinned (.plain (OpenSpec.ofChange blindSpec)) blindCard

/-- THE TIED CARD OF 'visorkeep.Steps'. -/
def stepsCard : Claim7 := { stood := { row := stepsRow, standIns := [], harness := (true, "1206af650e0ffbb36a1cedf7fc4fce3362c6a21e7942c1905e8d764d313a6f66"), looks := false }, kinds := [], alts := [], laidByText := true, laidKinds := [.data, .data, .data, .data, .data, .data], laidTests := true, laidLooks := .later }
def StepsCardSaid : Prop := Claim7.holds Tryd.pinned (.plain (OpenSpec.ofChange stepsSpec)) stepsCard

/-- THE SECOND FORM's CARD OF 'visorlaw.Texts'. -/
def textsUptoCard : Claim7 := { stood := { row := textsUptoRow, standIns := [], harness := (true, "1206af650e0ffbb36a1cedf7fc4fce3362c6a21e7942c1905e8d764d313a6f66"), looks := false }, kinds := [], alts := [], laidByText := true, laidKinds := [.data, .data, .data], laidTests := true, laidLooks := .later }
def TextsUptoCardSaid : Prop := Claim7.holds Tryd.pinned (.plain (OpenSpec.upto textsSpec)) textsUptoCard

/-- THE SECOND FORM's CARD OF 'visorkeep.Told'. -/
def toldUptoCard : Claim7 := { stood := { row := toldUptoRow, standIns := [], harness := (true, "1206af650e0ffbb36a1cedf7fc4fce3362c6a21e7942c1905e8d764d313a6f66"), looks := false }, kinds := [], alts := [], laidByText := true, laidKinds := [.data, .data, .data], laidTests := true, laidLooks := .later }
def ToldUptoCardSaid : Prop := Claim7.holds Tryd.pinned (.plain (OpenSpec.upto toldSpec)) toldUptoCard

/-- THE SECOND FORM's CARD OF 'visorlaw.Encodes'. -/
def encodesUptoCard : Claim7 := { stood := { row := encodesUptoRow, standIns := [], harness := (true, "1206af650e0ffbb36a1cedf7fc4fce3362c6a21e7942c1905e8d764d313a6f66"), looks := false }, kinds := [], alts := [], laidByText := true, laidKinds := [.data, .pinned], laidTests := true, laidLooks := .later }
def EncodesUptoCardSaid : Prop := Claim7.holds Tryd.pinned (.plain (OpenSpec.upto encodesSpec)) encodesUptoCard

/-- THE SECOND FORM's CARD OF 'visorlaw.Decodes'. -/
def decodesUptoCard : Claim7 := { stood := { row := decodesUptoRow, standIns := [], harness := (true, "1206af650e0ffbb36a1cedf7fc4fce3362c6a21e7942c1905e8d764d313a6f66"), looks := false }, kinds := [], alts := [], laidByText := true, laidKinds := [.data, .pinned], laidTests := true, laidLooks := .later }
def DecodesUptoCardSaid : Prop := Claim7.holds Tryd.pinned (.plain (OpenSpec.upto decodesSpec)) decodesUptoCard

/-- THE SECOND FORM's CARD OF 'visorkeep.Blind'. -/
def blindUptoCard : Claim7 := { stood := { row := blindUptoRow, standIns := [], harness := (true, "1206af650e0ffbb36a1cedf7fc4fce3362c6a21e7942c1905e8d764d313a6f66"), looks := false }, kinds := [], alts := [], laidByText := true, laidKinds := [.data, .data, .data, .data, .data, .data], laidTests := true, laidLooks := .later }
def BlindUptoCardSaid : Prop := Claim7.holds Tryd.pinned (.plain (OpenSpec.upto blindSpec)) blindUptoCard

/-- THE SECOND FORM's CARD OF 'visorkeep.Steps'. -/
def stepsUptoCard : Claim7 := { stood := { row := stepsUptoRow, standIns := [], harness := (true, "1206af650e0ffbb36a1cedf7fc4fce3362c6a21e7942c1905e8d764d313a6f66"), looks := false }, kinds := [], alts := [], laidByText := true, laidKinds := [.data, .data, .data, .data, .data, .data], laidTests := true, laidLooks := .later }
def StepsUptoCardSaid : Prop := Claim7.holds Tryd.pinned (.plain (OpenSpec.upto stepsSpec)) stepsUptoCard
end Rows
end Go.Proofs.YteibjmlimcpaoaaDoor
