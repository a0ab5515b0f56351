/-
  NARROWER THAN 'FOR EVERY INPUT', by the rows' own cells (each row's printed sentence says how): Inspects: laid · Publics: laid · Back: laid · Clean: laid · Fresh: laid · All: laid.
  DERIVED. THE GIVEN ROWS OF THIS SEAT. 6 by the template 'for every input the law returns true; each argument reads behind the call as it read before'; 0 by the template 'total and deterministic' (their statements: YteibjmlimcpaoaaGreatDoorTotals.lean).
  GIVEN WITH THE SEED: the statements are not yours to turn. If you find one false, say at which input.
  Laid BY PROGRAM, IN A SANDBOX (cutbox-rows.mjs): the forced cells as the released guide's own fill.sh prints them over the translation 61e0b39e3715553a… (all of the seat's roots in one cut). By AI agents, Wed Nov 11 2026. No macro, syntax, notation, axiom, sorry.
-/
import Derived.Test.YteibjmlimcpaoaaGreatDoorChecked
import GoSem.PinnedTables
import GoSem.Claim
import GoSem.ClaimJoined
import GoSem.ClaimMapViews
import Derived.JoinedTies
import Derived.KernelRfl
namespace Go.Proofs.YteibjmlimcpaoaaGreatDoor
/- THE CELL 'sum', in the pinned program and in every row, IS THE sha256 OF THE DUMP (.gsa) THAT YteibjmlimcpaoaaGreatDoorProg.lean LOADS. Nothing in Lean hashes anything: it is a label: what it is worth is what the hold of that sum in a sandbox is worth. -/
noncomputable def Tryz.pinned : Pinned := { name := "yteibjmlimcpaoaagreatdoor", sum := "61e0b39e3715553a6c68a57f7e18567b9bd622ca0af791d5eaf12907562d8802", checked := Tryz.checked }
namespace Rows
def none {H : Type} : Left H := { results := [], args := [] }

/- WHAT THE LISTED PACKAGE-LEVEL VARIABLES READ AS WHEN THE CALL BEGINS. Each datum BY PROGRAM (the guide's laid-datum.mjs) off the statement by which the dump's own 'gosem.cut.vars' lays the variable. In a bare row this is a premise. The card (YteibjmlimcpaoaaGreatDoorCards.lean) ties it to the program's text. -/
def laid_math_bits_deBruijn32tab {H : Type} : DataW H := .agg [.lit (.int .u8 0), .lit (.int .u8 1), .lit (.int .u8 28), .lit (.int .u8 2), .lit (.int .u8 29), .lit (.int .u8 14), .lit (.int .u8 24), .lit (.int .u8 3), .lit (.int .u8 30), .lit (.int .u8 22), .lit (.int .u8 20), .lit (.int .u8 15), .lit (.int .u8 25), .lit (.int .u8 17), .lit (.int .u8 4), .lit (.int .u8 8), .lit (.int .u8 31), .lit (.int .u8 27), .lit (.int .u8 13), .lit (.int .u8 23), .lit (.int .u8 21), .lit (.int .u8 19), .lit (.int .u8 16), .lit (.int .u8 7), .lit (.int .u8 26), .lit (.int .u8 12), .lit (.int .u8 18), .lit (.int .u8 6), .lit (.int .u8 11), .lit (.int .u8 5), .lit (.int .u8 10), .lit (.int .u8 9)]
def laid_math_bits_deBruijn64tab {H : Type} : DataW H := .agg [.lit (.int .u8 0), .lit (.int .u8 1), .lit (.int .u8 56), .lit (.int .u8 2), .lit (.int .u8 57), .lit (.int .u8 49), .lit (.int .u8 28), .lit (.int .u8 3), .lit (.int .u8 61), .lit (.int .u8 58), .lit (.int .u8 42), .lit (.int .u8 50), .lit (.int .u8 38), .lit (.int .u8 29), .lit (.int .u8 17), .lit (.int .u8 4), .lit (.int .u8 62), .lit (.int .u8 47), .lit (.int .u8 59), .lit (.int .u8 36), .lit (.int .u8 45), .lit (.int .u8 43), .lit (.int .u8 51), .lit (.int .u8 22), .lit (.int .u8 53), .lit (.int .u8 39), .lit (.int .u8 33), .lit (.int .u8 30), .lit (.int .u8 24), .lit (.int .u8 18), .lit (.int .u8 12), .lit (.int .u8 5), .lit (.int .u8 63), .lit (.int .u8 55), .lit (.int .u8 48), .lit (.int .u8 27), .lit (.int .u8 60), .lit (.int .u8 41), .lit (.int .u8 37), .lit (.int .u8 16), .lit (.int .u8 46), .lit (.int .u8 35), .lit (.int .u8 44), .lit (.int .u8 21), .lit (.int .u8 52), .lit (.int .u8 32), .lit (.int .u8 23), .lit (.int .u8 11), .lit (.int .u8 54), .lit (.int .u8 26), .lit (.int .u8 40), .lit (.int .u8 15), .lit (.int .u8 34), .lit (.int .u8 20), .lit (.int .u8 31), .lit (.int .u8 10), .lit (.int .u8 25), .lit (.int .u8 14), .lit (.int .u8 19), .lit (.int .u8 9), .lit (.int .u8 13), .lit (.int .u8 8), .lit (.int .u8 7), .lit (.int .u8 6)]
def laid_internal_strconv_uint64pow10 {H : Type} : DataW H := .agg [.lit (.int .u64 1), .lit (.int .u64 10), .lit (.int .u64 100), .lit (.int .u64 1000), .lit (.int .u64 10000), .lit (.int .u64 100000), .lit (.int .u64 1000000), .lit (.int .u64 10000000), .lit (.int .u64 100000000), .lit (.int .u64 1000000000), .lit (.int .u64 10000000000), .lit (.int .u64 100000000000), .lit (.int .u64 1000000000000), .lit (.int .u64 10000000000000), .lit (.int .u64 100000000000000), .lit (.int .u64 1000000000000000), .lit (.int .u64 10000000000000000), .lit (.int .u64 100000000000000000), .lit (.int .u64 1000000000000000000), .lit (.int .u64 10000000000000000000)]
def laid_visor_look_openings {H : Type} : DataW H := .agg [.agg [.lit (.string []), .lit (.string []), .lit (.string [])], .agg [.lit (.string [0, 1, 0, 0]), .lit (.string [116, 114, 117, 101]), .lit (.string [])], .agg [.lit (.string [79, 84, 84, 79]), .lit (.string []), .lit (.string [])], .agg [.lit (.string [116, 116, 99, 102]), .lit (.string [119, 79, 70, 70]), .lit (.string [119, 79, 70, 50])]]
def laid_visor_look_hasTables {H : Type} : DataW H := .agg [.lit (.bool false), .lit (.bool true), .lit (.bool true), .lit (.bool false)]
def laid_visor_look_keepsBytes {H : Type} : DataW H := .agg [.lit (.bool true), .lit (.bool false), .lit (.bool false), .lit (.bool false), .lit (.bool true)]
def laid_unicode_utf8_acceptRanges {H : Type} : DataW H := .agg [.agg [.lit (.int .u8 128), .lit (.int .u8 191)], .agg [.lit (.int .u8 160), .lit (.int .u8 191)], .agg [.lit (.int .u8 128), .lit (.int .u8 159)], .agg [.lit (.int .u8 144), .lit (.int .u8 191)], .agg [.lit (.int .u8 128), .lit (.int .u8 143)], .agg [.lit (.int .u8 0), .lit (.int .u8 0)], .agg [.lit (.int .u8 0), .lit (.int .u8 0)], .agg [.lit (.int .u8 0), .lit (.int .u8 0)], .agg [.lit (.int .u8 0), .lit (.int .u8 0)], .agg [.lit (.int .u8 0), .lit (.int .u8 0)], .agg [.lit (.int .u8 0), .lit (.int .u8 0)], .agg [.lit (.int .u8 0), .lit (.int .u8 0)], .agg [.lit (.int .u8 0), .lit (.int .u8 0)], .agg [.lit (.int .u8 0), .lit (.int .u8 0)], .agg [.lit (.int .u8 0), .lit (.int .u8 0)], .agg [.lit (.int .u8 0), .lit (.int .u8 0)]]
/-- One of Go's own tables, pinned by name: the form's constant. -/
def laid_unicode_utf8_first : DataW Unit := Go.Pinned.utf8First

/-- 'visorlaw.Inspects': WHATEVER THE INPUT: true; the input reads as it did. -/
def inspectsSpec : ChangeSpec := { name := "inspects", fn := fun _ => fun
  | [d1, d2] => { results := [.lit (.bool true)], args := [d1, d2] }
  | _ => none }
def inspectsRow : OpenClaim := { program := "yteibjmlimcpaoaagreatdoor", sum := "61e0b39e3715553a6c68a57f7e18567b9bd622ca0af791d5eaf12907562d8802", func := "visor/visorlaw.Inspects", spec := "inspects", inPlace := ["internal/abi.NoEscape"], unfollowed := true, recurses := true, named := ["visor/look.hasTables", "visor/look.openings", "visor/look.keepsBytes", "internal/strconv.uint64pow10", "math/bits.deBruijn32tab", "math/bits.deBruijn64tab"], apart := false, laid := [("math/bits.deBruijn32tab", laid_math_bits_deBruijn32tab), ("math/bits.deBruijn64tab", laid_math_bits_deBruijn64tab), ("internal/strconv.uint64pow10", laid_internal_strconv_uint64pow10), ("visor/look.openings", laid_visor_look_openings), ("visor/look.hasTables", laid_visor_look_hasTables), ("visor/look.keepsBytes", laid_visor_look_keepsBytes)] }
def InspectsSaid : Prop := inspectsRow.holds Tryz.pinned (OpenSpec.ofChange inspectsSpec)

/-- ITS FALSE NEIGHBOUR: 'it returns false'. Refute it at one input. -/
def inspectsWrong : ChangeSpec := { name := "inspects", fn := fun _ => fun
  | [d1, d2] => { results := [.lit (.bool false)], args := [d1, d2] }
  | _ => none }
def InspectsWrongFalsely : Prop := inspectsRow.holds Tryz.pinned (OpenSpec.ofChange inspectsWrong)

/-- 'visorlaw.Publics': WHATEVER THE INPUT: true; the input reads as it did. -/
def publicsSpec : ChangeSpec := { name := "publics", fn := fun _ => fun
  | [d1, d2, d3] => { results := [.lit (.bool true)], args := [d1, d2, d3] }
  | _ => none }
def publicsRow : OpenClaim := { program := "yteibjmlimcpaoaagreatdoor", sum := "61e0b39e3715553a6c68a57f7e18567b9bd622ca0af791d5eaf12907562d8802", func := "visor/visorlaw.Publics", spec := "publics", inPlace := ["internal/abi.NoEscape"], unfollowed := true, recurses := true, named := ["visor/look.hasTables", "visor/look.openings", "visor/look.keepsBytes", "internal/strconv.uint64pow10", "math/bits.deBruijn32tab", "math/bits.deBruijn64tab"], apart := false, laid := [("math/bits.deBruijn32tab", laid_math_bits_deBruijn32tab), ("math/bits.deBruijn64tab", laid_math_bits_deBruijn64tab), ("internal/strconv.uint64pow10", laid_internal_strconv_uint64pow10), ("visor/look.openings", laid_visor_look_openings), ("visor/look.hasTables", laid_visor_look_hasTables), ("visor/look.keepsBytes", laid_visor_look_keepsBytes)] }
def PublicsSaid : Prop := publicsRow.holds Tryz.pinned (OpenSpec.ofChange publicsSpec)

/-- ITS FALSE NEIGHBOUR: 'it returns false'. Refute it at one input. -/
def publicsWrong : ChangeSpec := { name := "publics", fn := fun _ => fun
  | [d1, d2, d3] => { results := [.lit (.bool false)], args := [d1, d2, d3] }
  | _ => none }
def PublicsWrongFalsely : Prop := publicsRow.holds Tryz.pinned (OpenSpec.ofChange publicsWrong)

/-- 'visorkeep.Back': WHATEVER THE INPUT: true; the input reads as it did. -/
def backSpec : ChangeSpec := { name := "back", fn := fun _ => fun
  | [d] => { results := [.lit (.bool true)], args := [d] }
  | _ => none }
def backRow : OpenClaim := { program := "yteibjmlimcpaoaagreatdoor", sum := "61e0b39e3715553a6c68a57f7e18567b9bd622ca0af791d5eaf12907562d8802", func := "visor/visorkeep.Back", spec := "back", inPlace := ["internal/abi.NoEscape"], unfollowed := true, recurses := true, named := ["visor/look.hasTables", "visor/look.openings", "visor/look.keepsBytes", "internal/strconv.uint64pow10", "math/bits.deBruijn32tab", "math/bits.deBruijn64tab", "unicode/utf8.first", "unicode/utf8.acceptRanges"], apart := false, laid := [("math/bits.deBruijn32tab", laid_math_bits_deBruijn32tab), ("math/bits.deBruijn64tab", laid_math_bits_deBruijn64tab), ("internal/strconv.uint64pow10", laid_internal_strconv_uint64pow10), ("unicode/utf8.acceptRanges", laid_unicode_utf8_acceptRanges), ("visor/look.openings", laid_visor_look_openings), ("visor/look.hasTables", laid_visor_look_hasTables), ("visor/look.keepsBytes", laid_visor_look_keepsBytes), ("unicode/utf8.first", laid_unicode_utf8_first)] }
def BackSaid : Prop := backRow.holds Tryz.pinned (OpenSpec.ofChange backSpec)

/-- ITS FALSE NEIGHBOUR: 'it returns false'. Refute it at one input. -/
def backWrong : ChangeSpec := { name := "back", fn := fun _ => fun
  | [d] => { results := [.lit (.bool false)], args := [d] }
  | _ => none }
def BackWrongFalsely : Prop := backRow.holds Tryz.pinned (OpenSpec.ofChange backWrong)

/-- 'visorkeep.Clean': WHATEVER THE INPUT: true; the input reads as it did. -/
def cleanSpec : ChangeSpec := { name := "clean", fn := fun _ => fun
  | [d1, d2] => { results := [.lit (.bool true)], args := [d1, d2] }
  | _ => none }
def cleanRow : OpenClaim := { program := "yteibjmlimcpaoaagreatdoor", sum := "61e0b39e3715553a6c68a57f7e18567b9bd622ca0af791d5eaf12907562d8802", func := "visor/visorkeep.Clean", spec := "clean", inPlace := ["internal/abi.NoEscape"], unfollowed := true, recurses := true, named := ["visor/look.hasTables", "visor/look.openings", "visor/look.keepsBytes", "internal/strconv.uint64pow10", "math/bits.deBruijn32tab", "math/bits.deBruijn64tab", "unicode/utf8.first", "unicode/utf8.acceptRanges"], apart := false, laid := [("math/bits.deBruijn32tab", laid_math_bits_deBruijn32tab), ("math/bits.deBruijn64tab", laid_math_bits_deBruijn64tab), ("internal/strconv.uint64pow10", laid_internal_strconv_uint64pow10), ("unicode/utf8.acceptRanges", laid_unicode_utf8_acceptRanges), ("visor/look.openings", laid_visor_look_openings), ("visor/look.hasTables", laid_visor_look_hasTables), ("visor/look.keepsBytes", laid_visor_look_keepsBytes), ("unicode/utf8.first", laid_unicode_utf8_first)] }
def CleanSaid : Prop := cleanRow.holds Tryz.pinned (OpenSpec.ofChange cleanSpec)

/-- ITS FALSE NEIGHBOUR: 'it returns false'. Refute it at one input. -/
def cleanWrong : ChangeSpec := { name := "clean", fn := fun _ => fun
  | [d1, d2] => { results := [.lit (.bool false)], args := [d1, d2] }
  | _ => none }
def CleanWrongFalsely : Prop := cleanRow.holds Tryz.pinned (OpenSpec.ofChange cleanWrong)

/-- 'visorkeep.Fresh': WHATEVER THE INPUT: true; the input reads as it did. -/
def freshSpec : ChangeSpec := { name := "fresh", fn := fun _ => fun
  | [d] => { results := [.lit (.bool true)], args := [d] }
  | _ => none }
def freshRow : OpenClaim := { program := "yteibjmlimcpaoaagreatdoor", sum := "61e0b39e3715553a6c68a57f7e18567b9bd622ca0af791d5eaf12907562d8802", func := "visor/visorkeep.Fresh", spec := "fresh", inPlace := ["internal/abi.NoEscape"], unfollowed := true, recurses := true, named := ["visor/look.hasTables", "visor/look.openings", "visor/look.keepsBytes", "internal/strconv.uint64pow10", "math/bits.deBruijn32tab", "math/bits.deBruijn64tab"], apart := false, laid := [("math/bits.deBruijn32tab", laid_math_bits_deBruijn32tab), ("math/bits.deBruijn64tab", laid_math_bits_deBruijn64tab), ("internal/strconv.uint64pow10", laid_internal_strconv_uint64pow10), ("visor/look.openings", laid_visor_look_openings), ("visor/look.hasTables", laid_visor_look_hasTables), ("visor/look.keepsBytes", laid_visor_look_keepsBytes)] }
def FreshSaid : Prop := freshRow.holds Tryz.pinned (OpenSpec.ofChange freshSpec)

/-- ITS FALSE NEIGHBOUR: 'it returns false'. Refute it at one input. -/
def freshWrong : ChangeSpec := { name := "fresh", fn := fun _ => fun
  | [d] => { results := [.lit (.bool false)], args := [d] }
  | _ => none }
def FreshWrongFalsely : Prop := freshRow.holds Tryz.pinned (OpenSpec.ofChange freshWrong)

/-- 'visorlaw.All': WHATEVER THE INPUT: true; the input reads as it did. -/
def allSpec : ChangeSpec := { name := "all", fn := fun _ => fun
  | [d] => { results := [.lit (.bool true)], args := [d] }
  | _ => none }
def allRow : OpenClaim := { program := "yteibjmlimcpaoaagreatdoor", sum := "61e0b39e3715553a6c68a57f7e18567b9bd622ca0af791d5eaf12907562d8802", func := "visor/visorlaw.All", spec := "all", inPlace := ["internal/abi.NoEscape"], unfollowed := true, recurses := true, named := ["visor/look.hasTables", "visor/look.openings", "visor/look.keepsBytes", "internal/strconv.uint64pow10", "math/bits.deBruijn32tab", "math/bits.deBruijn64tab"], apart := false, laid := [("math/bits.deBruijn32tab", laid_math_bits_deBruijn32tab), ("math/bits.deBruijn64tab", laid_math_bits_deBruijn64tab), ("internal/strconv.uint64pow10", laid_internal_strconv_uint64pow10), ("visor/look.openings", laid_visor_look_openings), ("visor/look.hasTables", laid_visor_look_hasTables), ("visor/look.keepsBytes", laid_visor_look_keepsBytes)] }
def AllSaid : Prop := allRow.holds Tryz.pinned (OpenSpec.ofChange allSpec)

/-- ITS FALSE NEIGHBOUR: 'it returns false'. Refute it at one input. -/
def allWrong : ChangeSpec := { name := "all", fn := fun _ => fun
  | [d] => { results := [.lit (.bool false)], args := [d] }
  | _ => none }
def AllWrongFalsely : Prop := allRow.holds Tryz.pinned (OpenSpec.ofChange allWrong)

/- THE SECOND FORM. 'bulk': how many values and letters a reading holds, each counted each time it is reached (what is shared counts as often as it is met; a slice's spare places count too). A statement '..UptoSaid' is the law's where the arguments, and the package variables that the reading takes, are together of bulk at most 1048576: NARROWER than '..Said'. Prove '..Said' where nothing that the law and all that it calls make is longer than what came in: it says more and counts as full. Else prove '..UptoSaid'. A law counts once. -/
mutual
def uptoBulk {H : Type} : DataW H → Nat
  | .lit (.string bytes) => bytes.length + 1
  | .lit _ => 1
  | .nil => 1
  | .ptr d => uptoBulk d + 1
  | .slice elems spare => uptoBulkAll elems + uptoBulkAll spare + 1
  | .agg parts => uptoBulkAll parts + 1
  | .iface _ d => uptoBulk d + 1
  | .map entries => uptoBulkEntries entries + 1
  | .held _ => 1
def uptoBulkAll {H : Type} : List (DataW H) → Nat
  | [] => 0
  | d :: r => uptoBulk d + uptoBulkAll r
def uptoBulkEntries {H : Type} : List (Lit × DataW H) → Nat
  | [] => 0
  | x :: r => uptoBulkEntry x + uptoBulkEntries r
def uptoBulkEntry {H : Type} : Lit × DataW H → Nat
  | (.string bytes, d) => bytes.length + uptoBulk d + 1
  | (_, d) => uptoBulk d + 1
 end
def uptoSmall : (H : Type) → List (DataW H) → Bool := fun _ ds => decide (uptoBulkAll ds ≤ 1048576)
def OpenSpec.upto (s : _root_.Go.ChangeSpec) : _root_.Go.OpenSpec := { _root_.Go.OpenSpec.ofChange s with cond := some uptoSmall }

/-- 'visorlaw.Inspects', WHERE WHAT IT READS IS OF BULK AT MOST 1048576: true; the input reads as it did. -/
def inspectsUptoRow : OpenClaim := { program := "yteibjmlimcpaoaagreatdoor", sum := "61e0b39e3715553a6c68a57f7e18567b9bd622ca0af791d5eaf12907562d8802", func := "visor/visorlaw.Inspects", spec := "inspects", inPlace := ["internal/abi.NoEscape"], unfollowed := true, recurses := true, named := ["visor/look.hasTables", "visor/look.openings", "visor/look.keepsBytes", "internal/strconv.uint64pow10", "math/bits.deBruijn32tab", "math/bits.deBruijn64tab"], apart := false, laid := [("math/bits.deBruijn32tab", laid_math_bits_deBruijn32tab), ("math/bits.deBruijn64tab", laid_math_bits_deBruijn64tab), ("internal/strconv.uint64pow10", laid_internal_strconv_uint64pow10), ("visor/look.openings", laid_visor_look_openings), ("visor/look.hasTables", laid_visor_look_hasTables), ("visor/look.keepsBytes", laid_visor_look_keepsBytes)], narrowed := true }
def InspectsUptoSaid : Prop := inspectsUptoRow.holds Tryz.pinned (OpenSpec.upto inspectsSpec)

/-- 'visorlaw.Publics', WHERE WHAT IT READS IS OF BULK AT MOST 1048576: true; the input reads as it did. -/
def publicsUptoRow : OpenClaim := { program := "yteibjmlimcpaoaagreatdoor", sum := "61e0b39e3715553a6c68a57f7e18567b9bd622ca0af791d5eaf12907562d8802", func := "visor/visorlaw.Publics", spec := "publics", inPlace := ["internal/abi.NoEscape"], unfollowed := true, recurses := true, named := ["visor/look.hasTables", "visor/look.openings", "visor/look.keepsBytes", "internal/strconv.uint64pow10", "math/bits.deBruijn32tab", "math/bits.deBruijn64tab"], apart := false, laid := [("math/bits.deBruijn32tab", laid_math_bits_deBruijn32tab), ("math/bits.deBruijn64tab", laid_math_bits_deBruijn64tab), ("internal/strconv.uint64pow10", laid_internal_strconv_uint64pow10), ("visor/look.openings", laid_visor_look_openings), ("visor/look.hasTables", laid_visor_look_hasTables), ("visor/look.keepsBytes", laid_visor_look_keepsBytes)], narrowed := true }
def PublicsUptoSaid : Prop := publicsUptoRow.holds Tryz.pinned (OpenSpec.upto publicsSpec)

/-- 'visorkeep.Back', WHERE WHAT IT READS IS OF BULK AT MOST 1048576: true; the input reads as it did. -/
def backUptoRow : OpenClaim := { program := "yteibjmlimcpaoaagreatdoor", sum := "61e0b39e3715553a6c68a57f7e18567b9bd622ca0af791d5eaf12907562d8802", func := "visor/visorkeep.Back", spec := "back", inPlace := ["internal/abi.NoEscape"], unfollowed := true, recurses := true, named := ["visor/look.hasTables", "visor/look.openings", "visor/look.keepsBytes", "internal/strconv.uint64pow10", "math/bits.deBruijn32tab", "math/bits.deBruijn64tab", "unicode/utf8.first", "unicode/utf8.acceptRanges"], apart := false, laid := [("math/bits.deBruijn32tab", laid_math_bits_deBruijn32tab), ("math/bits.deBruijn64tab", laid_math_bits_deBruijn64tab), ("internal/strconv.uint64pow10", laid_internal_strconv_uint64pow10), ("unicode/utf8.acceptRanges", laid_unicode_utf8_acceptRanges), ("visor/look.openings", laid_visor_look_openings), ("visor/look.hasTables", laid_visor_look_hasTables), ("visor/look.keepsBytes", laid_visor_look_keepsBytes), ("unicode/utf8.first", laid_unicode_utf8_first)], narrowed := true }
def BackUptoSaid : Prop := backUptoRow.holds Tryz.pinned (OpenSpec.upto backSpec)

/-- 'visorkeep.Clean', WHERE WHAT IT READS IS OF BULK AT MOST 1048576: true; the input reads as it did. -/
def cleanUptoRow : OpenClaim := { program := "yteibjmlimcpaoaagreatdoor", sum := "61e0b39e3715553a6c68a57f7e18567b9bd622ca0af791d5eaf12907562d8802", func := "visor/visorkeep.Clean", spec := "clean", inPlace := ["internal/abi.NoEscape"], unfollowed := true, recurses := true, named := ["visor/look.hasTables", "visor/look.openings", "visor/look.keepsBytes", "internal/strconv.uint64pow10", "math/bits.deBruijn32tab", "math/bits.deBruijn64tab", "unicode/utf8.first", "unicode/utf8.acceptRanges"], apart := false, laid := [("math/bits.deBruijn32tab", laid_math_bits_deBruijn32tab), ("math/bits.deBruijn64tab", laid_math_bits_deBruijn64tab), ("internal/strconv.uint64pow10", laid_internal_strconv_uint64pow10), ("unicode/utf8.acceptRanges", laid_unicode_utf8_acceptRanges), ("visor/look.openings", laid_visor_look_openings), ("visor/look.hasTables", laid_visor_look_hasTables), ("visor/look.keepsBytes", laid_visor_look_keepsBytes), ("unicode/utf8.first", laid_unicode_utf8_first)], narrowed := true }
def CleanUptoSaid : Prop := cleanUptoRow.holds Tryz.pinned (OpenSpec.upto cleanSpec)

/-- 'visorkeep.Fresh', WHERE WHAT IT READS IS OF BULK AT MOST 1048576: true; the input reads as it did. -/
def freshUptoRow : OpenClaim := { program := "yteibjmlimcpaoaagreatdoor", sum := "61e0b39e3715553a6c68a57f7e18567b9bd622ca0af791d5eaf12907562d8802", func := "visor/visorkeep.Fresh", spec := "fresh", inPlace := ["internal/abi.NoEscape"], unfollowed := true, recurses := true, named := ["visor/look.hasTables", "visor/look.openings", "visor/look.keepsBytes", "internal/strconv.uint64pow10", "math/bits.deBruijn32tab", "math/bits.deBruijn64tab"], apart := false, laid := [("math/bits.deBruijn32tab", laid_math_bits_deBruijn32tab), ("math/bits.deBruijn64tab", laid_math_bits_deBruijn64tab), ("internal/strconv.uint64pow10", laid_internal_strconv_uint64pow10), ("visor/look.openings", laid_visor_look_openings), ("visor/look.hasTables", laid_visor_look_hasTables), ("visor/look.keepsBytes", laid_visor_look_keepsBytes)], narrowed := true }
def FreshUptoSaid : Prop := freshUptoRow.holds Tryz.pinned (OpenSpec.upto freshSpec)

/-- 'visorlaw.All', WHERE WHAT IT READS IS OF BULK AT MOST 1048576: true; the input reads as it did. -/
def allUptoRow : OpenClaim := { program := "yteibjmlimcpaoaagreatdoor", sum := "61e0b39e3715553a6c68a57f7e18567b9bd622ca0af791d5eaf12907562d8802", func := "visor/visorlaw.All", spec := "all", inPlace := ["internal/abi.NoEscape"], unfollowed := true, recurses := true, named := ["visor/look.hasTables", "visor/look.openings", "visor/look.keepsBytes", "internal/strconv.uint64pow10", "math/bits.deBruijn32tab", "math/bits.deBruijn64tab"], apart := false, laid := [("math/bits.deBruijn32tab", laid_math_bits_deBruijn32tab), ("math/bits.deBruijn64tab", laid_math_bits_deBruijn64tab), ("internal/strconv.uint64pow10", laid_internal_strconv_uint64pow10), ("visor/look.openings", laid_visor_look_openings), ("visor/look.hasTables", laid_visor_look_hasTables), ("visor/look.keepsBytes", laid_visor_look_keepsBytes)], narrowed := true }
def AllUptoSaid : Prop := allUptoRow.holds Tryz.pinned (OpenSpec.upto allSpec)

end Rows
end Go.Proofs.YteibjmlimcpaoaaGreatDoor
