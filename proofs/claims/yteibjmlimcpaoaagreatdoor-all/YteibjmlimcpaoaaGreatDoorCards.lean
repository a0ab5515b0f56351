/-
  DERIVED. GIVEN WITH THE SEED: THE CARDS: each row of YteibjmlimcpaoaaGreatDoorRows.lean that lists a variable, with what it lists TIED to the program's text (the seventh form; the later family's looks); each row that meets fmt, with fmt's text TOLD by the authors' own Lean function (tested against real Go, not proved from fmt's source: count such statements apart). THE CARD IS WHAT COUNTS. Prove the row's statement (the work); the ties are given (YteibjmlimcpaoaaGreatDoorTie.lean); close each card by the builder's one call (the guide's Derived/Test/ToyasCard.lean, 'card_holds'). Laid BY PROGRAM, IN A SANDBOX (cutbox-door.mjs). By AI agents, Wed Nov 11 2026. No macro, syntax, notation, axiom, sorry.
-/
import Derived.Test.YteibjmlimcpaoaaGreatDoorRows
import GoSem.ClaimSeven
namespace Go.Proofs.YteibjmlimcpaoaaGreatDoor
namespace Rows

/-- THE TIED CARD OF 'visorlaw.Inspects'. -/
def inspectsCard : Claim7 := { stood := { row := inspectsRow, standIns := [], harness := (true, "0d182d3731e7513f92b3b379ce383afe9aa82564924f15f426220acab14b66a0"), looks := false }, kinds := [], alts := [], laidByText := true, laidKinds := [.data, .data, .data, .data, .data, .data], laidTests := true, laidLooks := .later }
def InspectsCardSaid : Prop := Claim7.holds Tryz.pinned (.plain (OpenSpec.ofChange inspectsSpec)) inspectsCard

/-- THE TIED CARD OF 'visorlaw.Publics'. -/
def publicsCard : Claim7 := { stood := { row := publicsRow, standIns := [], harness := (true, "0d182d3731e7513f92b3b379ce383afe9aa82564924f15f426220acab14b66a0"), looks := false }, kinds := [], alts := [], laidByText := true, laidKinds := [.data, .data, .data, .data, .data, .data], laidTests := true, laidLooks := .later }
def PublicsCardSaid : Prop := Claim7.holds Tryz.pinned (.plain (OpenSpec.ofChange publicsSpec)) publicsCard

/-- THE TIED CARD OF 'visorkeep.Back'. -/
def backCard : Claim7 := { stood := { row := backRow, standIns := [], harness := (true, "0d182d3731e7513f92b3b379ce383afe9aa82564924f15f426220acab14b66a0"), looks := false }, kinds := [], alts := [], laidByText := true, laidKinds := [.data, .data, .data, .data, .data, .data, .data, .pinned], laidTests := true, laidLooks := .later }
def BackCardSaid : Prop := Claim7.holds Tryz.pinned (.plain (OpenSpec.ofChange backSpec)) backCard

/-- THE TIED CARD OF 'visorkeep.Clean'. -/
def cleanCard : Claim7 := { stood := { row := cleanRow, standIns := [], harness := (true, "0d182d3731e7513f92b3b379ce383afe9aa82564924f15f426220acab14b66a0"), looks := false }, kinds := [], alts := [], laidByText := true, laidKinds := [.data, .data, .data, .data, .data, .data, .data, .pinned], laidTests := true, laidLooks := .later }
def CleanCardSaid : Prop := Claim7.holds Tryz.pinned (.plain (OpenSpec.ofChange cleanSpec)) cleanCard

/-- THE TIED CARD OF 'visorkeep.Fresh'. -/
def freshCard : Claim7 := { stood := { row := freshRow, standIns := [], harness := (true, "0d182d3731e7513f92b3b379ce383afe9aa82564924f15f426220acab14b66a0"), looks := false }, kinds := [], alts := [], laidByText := true, laidKinds := [.data, .data, .data, .data, .data, .data], laidTests := true, laidLooks := .later }
def FreshCardSaid : Prop := Claim7.holds Tryz.pinned (.plain (OpenSpec.ofChange freshSpec)) freshCard

/-- THE TIED CARD OF 'visorlaw.All'. -/
def allCard : Claim7 := { stood := { row := allRow, standIns := [], harness := (true, "0d182d3731e7513f92b3b379ce383afe9aa82564924f15f426220acab14b66a0"), looks := false }, kinds := [], alts := [], laidByText := true, laidKinds := [.data, .data, .data, .data, .data, .data], laidTests := true, laidLooks := .later }
def AllCardSaid : Prop := Claim7.holds Tryz.pinned (.plain (OpenSpec.ofChange allSpec)) allCard

/-- THE SECOND FORM's CARD OF 'visorlaw.Inspects'. -/
def inspectsUptoCard : Claim7 := { stood := { row := inspectsUptoRow, standIns := [], harness := (true, "0d182d3731e7513f92b3b379ce383afe9aa82564924f15f426220acab14b66a0"), looks := false }, kinds := [], alts := [], laidByText := true, laidKinds := [.data, .data, .data, .data, .data, .data], laidTests := true, laidLooks := .later }
def InspectsUptoCardSaid : Prop := Claim7.holds Tryz.pinned (.plain (OpenSpec.upto inspectsSpec)) inspectsUptoCard

/-- THE SECOND FORM's CARD OF 'visorlaw.Publics'. -/
def publicsUptoCard : Claim7 := { stood := { row := publicsUptoRow, standIns := [], harness := (true, "0d182d3731e7513f92b3b379ce383afe9aa82564924f15f426220acab14b66a0"), looks := false }, kinds := [], alts := [], laidByText := true, laidKinds := [.data, .data, .data, .data, .data, .data], laidTests := true, laidLooks := .later }
def PublicsUptoCardSaid : Prop := Claim7.holds Tryz.pinned (.plain (OpenSpec.upto publicsSpec)) publicsUptoCard

/-- THE SECOND FORM's CARD OF 'visorkeep.Back'. -/
def backUptoCard : Claim7 := { stood := { row := backUptoRow, standIns := [], harness := (true, "0d182d3731e7513f92b3b379ce383afe9aa82564924f15f426220acab14b66a0"), looks := false }, kinds := [], alts := [], laidByText := true, laidKinds := [.data, .data, .data, .data, .data, .data, .data, .pinned], laidTests := true, laidLooks := .later }
def BackUptoCardSaid : Prop := Claim7.holds Tryz.pinned (.plain (OpenSpec.upto backSpec)) backUptoCard

/-- THE SECOND FORM's CARD OF 'visorkeep.Clean'. -/
def cleanUptoCard : Claim7 := { stood := { row := cleanUptoRow, standIns := [], harness := (true, "0d182d3731e7513f92b3b379ce383afe9aa82564924f15f426220acab14b66a0"), looks := false }, kinds := [], alts := [], laidByText := true, laidKinds := [.data, .data, .data, .data, .data, .data, .data, .pinned], laidTests := true, laidLooks := .later }
def CleanUptoCardSaid : Prop := Claim7.holds Tryz.pinned (.plain (OpenSpec.upto cleanSpec)) cleanUptoCard

/-- THE SECOND FORM's CARD OF 'visorkeep.Fresh'. -/
def freshUptoCard : Claim7 := { stood := { row := freshUptoRow, standIns := [], harness := (true, "0d182d3731e7513f92b3b379ce383afe9aa82564924f15f426220acab14b66a0"), looks := false }, kinds := [], alts := [], laidByText := true, laidKinds := [.data, .data, .data, .data, .data, .data], laidTests := true, laidLooks := .later }
def FreshUptoCardSaid : Prop := Claim7.holds Tryz.pinned (.plain (OpenSpec.upto freshSpec)) freshUptoCard

/-- THE SECOND FORM's CARD OF 'visorlaw.All'. -/
def allUptoCard : Claim7 := { stood := { row := allUptoRow, standIns := [], harness := (true, "0d182d3731e7513f92b3b379ce383afe9aa82564924f15f426220acab14b66a0"), looks := false }, kinds := [], alts := [], laidByText := true, laidKinds := [.data, .data, .data, .data, .data, .data], laidTests := true, laidLooks := .later }
def AllUptoCardSaid : Prop := Claim7.holds Tryz.pinned (.plain (OpenSpec.upto allSpec)) allUptoCard
end Rows
end Go.Proofs.YteibjmlimcpaoaaGreatDoor
