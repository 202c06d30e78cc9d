/-
  NARROWER THAN 'FOR EVERY INPUT', by the rows' own cells (each row's printed sentence says how): MeterCounts: laid · MeterReadings: laid · MeterProfiles: laid · MeterReads: laid · MeterBlocks: laid · MeterClocks: laid · MeterIntervals: laid · MeterSplits: laid · MeterRings: laid · MeterSlews: laid.
  DERIVED. THE GIVEN ROWS OF THIS SEAT. 10 by the template 'for every input the law returns true; each argument reads behind the call as it read before'; 0 by the template 'total and deterministic' (their statements: YtkflndifhonbcaaGreatDoorTotals.lean).
  GIVEN WITH THE SEED: the statements are not yours to turn. If you find one false, say at which input.
  Laid BY PROGRAM, IN A SANDBOX (cutbox-rows.mjs): the forced cells as the released guide's own fill.sh prints them over the translation 7ff55d458d624a8a… (all of the seat's roots in one cut). By AI agents, Wed Nov 11 2026. No macro, syntax, notation, axiom, sorry.
-/
import Derived.Test.YtkflndifhonbcaaGreatDoorChecked
import GoSem.Claim
import GoSem.ClaimJoined
import GoSem.ClaimMapViews
import Derived.JoinedTies
import Derived.KernelRfl
namespace Go.Proofs.YtkflndifhonbcaaGreatDoor
/- THE CELL 'sum', in the pinned program and in every row, IS THE sha256 OF THE DUMP (.gsa) THAT YtkflndifhonbcaaGreatDoorProg.lean LOADS. Nothing in Lean hashes anything: it is a label: what it is worth is what the hold of that sum in a sandbox is worth. -/
noncomputable def Tryz.pinned : Pinned := { name := "ytkflndifhonbcaagreatdoor", sum := "7ff55d458d624a8a84b475cf6b97c3987030601f7a5b52b98e56909094455724", checked := Tryz.checked }
namespace Rows
def none {H : Type} : Left H := { results := [], args := [] }

/- WHAT THE LISTED PACKAGE-LEVEL VARIABLES READ AS WHEN THE CALL BEGINS. Each datum BY PROGRAM (the guide's laid-datum.mjs) off the statement by which the dump's own 'gosem.cut.vars' lays the variable. In a bare row this is a premise. The card (YtkflndifhonbcaaGreatDoorCards.lean) ties it to the program's text. -/
def laid_math_bits_deBruijn32tab {H : Type} : DataW H := .agg [.lit (.int .u8 0), .lit (.int .u8 1), .lit (.int .u8 28), .lit (.int .u8 2), .lit (.int .u8 29), .lit (.int .u8 14), .lit (.int .u8 24), .lit (.int .u8 3), .lit (.int .u8 30), .lit (.int .u8 22), .lit (.int .u8 20), .lit (.int .u8 15), .lit (.int .u8 25), .lit (.int .u8 17), .lit (.int .u8 4), .lit (.int .u8 8), .lit (.int .u8 31), .lit (.int .u8 27), .lit (.int .u8 13), .lit (.int .u8 23), .lit (.int .u8 21), .lit (.int .u8 19), .lit (.int .u8 16), .lit (.int .u8 7), .lit (.int .u8 26), .lit (.int .u8 12), .lit (.int .u8 18), .lit (.int .u8 6), .lit (.int .u8 11), .lit (.int .u8 5), .lit (.int .u8 10), .lit (.int .u8 9)]
def laid_math_bits_deBruijn64tab {H : Type} : DataW H := .agg [.lit (.int .u8 0), .lit (.int .u8 1), .lit (.int .u8 56), .lit (.int .u8 2), .lit (.int .u8 57), .lit (.int .u8 49), .lit (.int .u8 28), .lit (.int .u8 3), .lit (.int .u8 61), .lit (.int .u8 58), .lit (.int .u8 42), .lit (.int .u8 50), .lit (.int .u8 38), .lit (.int .u8 29), .lit (.int .u8 17), .lit (.int .u8 4), .lit (.int .u8 62), .lit (.int .u8 47), .lit (.int .u8 59), .lit (.int .u8 36), .lit (.int .u8 45), .lit (.int .u8 43), .lit (.int .u8 51), .lit (.int .u8 22), .lit (.int .u8 53), .lit (.int .u8 39), .lit (.int .u8 33), .lit (.int .u8 30), .lit (.int .u8 24), .lit (.int .u8 18), .lit (.int .u8 12), .lit (.int .u8 5), .lit (.int .u8 63), .lit (.int .u8 55), .lit (.int .u8 48), .lit (.int .u8 27), .lit (.int .u8 60), .lit (.int .u8 41), .lit (.int .u8 37), .lit (.int .u8 16), .lit (.int .u8 46), .lit (.int .u8 35), .lit (.int .u8 44), .lit (.int .u8 21), .lit (.int .u8 52), .lit (.int .u8 32), .lit (.int .u8 23), .lit (.int .u8 11), .lit (.int .u8 54), .lit (.int .u8 26), .lit (.int .u8 40), .lit (.int .u8 15), .lit (.int .u8 34), .lit (.int .u8 20), .lit (.int .u8 31), .lit (.int .u8 10), .lit (.int .u8 25), .lit (.int .u8 14), .lit (.int .u8 19), .lit (.int .u8 9), .lit (.int .u8 13), .lit (.int .u8 8), .lit (.int .u8 7), .lit (.int .u8 6)]
def laid_internal_strconv_uint64pow10 {H : Type} : DataW H := .agg [.lit (.int .u64 1), .lit (.int .u64 10), .lit (.int .u64 100), .lit (.int .u64 1000), .lit (.int .u64 10000), .lit (.int .u64 100000), .lit (.int .u64 1000000), .lit (.int .u64 10000000), .lit (.int .u64 100000000), .lit (.int .u64 1000000000), .lit (.int .u64 10000000000), .lit (.int .u64 100000000000), .lit (.int .u64 1000000000000), .lit (.int .u64 10000000000000), .lit (.int .u64 100000000000000), .lit (.int .u64 1000000000000000), .lit (.int .u64 10000000000000000), .lit (.int .u64 100000000000000000), .lit (.int .u64 1000000000000000000), .lit (.int .u64 10000000000000000000)]
def laid_kilovar_meter_names {H : Type} : DataW H := .agg [.lit (.string [105, 109, 112, 111, 114, 116]), .lit (.string [101, 120, 112, 111, 114, 116]), .lit (.string [113, 49]), .lit (.string [113, 50]), .lit (.string [113, 51]), .lit (.string [113, 52])]

/-- 'kilovarlaw06.MeterCounts': WHATEVER THE INPUT: true; the input reads as it did. -/
def meterCountsSpec : ChangeSpec := { name := "meterCounts", fn := fun _ => fun
  | [d1, d2, d3] => { results := [.lit (.bool true)], args := [d1, d2, d3] }
  | _ => none }
def meterCountsRow : OpenClaim := { program := "ytkflndifhonbcaagreatdoor", sum := "7ff55d458d624a8a84b475cf6b97c3987030601f7a5b52b98e56909094455724", func := "kilovar/kilovarlaw06.MeterCounts", spec := "meterCounts", inPlace := ["math.Float64bits", "math.Float64frombits", "math.archTrunc", "internal/abi.NoEscape", "internal/bytealg.MakeNoZero"], unfollowed := true, recurses := true, named := ["kilovar/meter.names", "internal/strconv.uint64pow10", "math/bits.deBruijn32tab", "math/bits.deBruijn64tab"], apart := false, laid := [("math/bits.deBruijn32tab", laid_math_bits_deBruijn32tab), ("math/bits.deBruijn64tab", laid_math_bits_deBruijn64tab), ("internal/strconv.uint64pow10", laid_internal_strconv_uint64pow10), ("kilovar/meter.names", laid_kilovar_meter_names)] }
def MeterCountsSaid : Prop := meterCountsRow.holds Tryz.pinned (OpenSpec.ofChange meterCountsSpec)

/-- ITS FALSE NEIGHBOUR: 'it returns false'. Refute it at one input. -/
def meterCountsWrong : ChangeSpec := { name := "meterCounts", fn := fun _ => fun
  | [d1, d2, d3] => { results := [.lit (.bool false)], args := [d1, d2, d3] }
  | _ => none }
def MeterCountsWrongFalsely : Prop := meterCountsRow.holds Tryz.pinned (OpenSpec.ofChange meterCountsWrong)

/-- 'kilovarlaw06.MeterReadings': WHATEVER THE INPUT: true; the input reads as it did. -/
def meterReadingsSpec : ChangeSpec := { name := "meterReadings", fn := fun _ => fun
  | [d1, d2, d3] => { results := [.lit (.bool true)], args := [d1, d2, d3] }
  | _ => none }
def meterReadingsRow : OpenClaim := { program := "ytkflndifhonbcaagreatdoor", sum := "7ff55d458d624a8a84b475cf6b97c3987030601f7a5b52b98e56909094455724", func := "kilovar/kilovarlaw06.MeterReadings", spec := "meterReadings", inPlace := ["math.Float64bits", "math.Float64frombits", "math.archTrunc", "internal/abi.NoEscape", "internal/bytealg.MakeNoZero"], unfollowed := true, recurses := true, named := ["kilovar/meter.names", "internal/strconv.uint64pow10", "math/bits.deBruijn32tab", "math/bits.deBruijn64tab"], apart := false, laid := [("math/bits.deBruijn32tab", laid_math_bits_deBruijn32tab), ("math/bits.deBruijn64tab", laid_math_bits_deBruijn64tab), ("internal/strconv.uint64pow10", laid_internal_strconv_uint64pow10), ("kilovar/meter.names", laid_kilovar_meter_names)] }
def MeterReadingsSaid : Prop := meterReadingsRow.holds Tryz.pinned (OpenSpec.ofChange meterReadingsSpec)

/-- ITS FALSE NEIGHBOUR: 'it returns false'. Refute it at one input. -/
def meterReadingsWrong : ChangeSpec := { name := "meterReadings", fn := fun _ => fun
  | [d1, d2, d3] => { results := [.lit (.bool false)], args := [d1, d2, d3] }
  | _ => none }
def MeterReadingsWrongFalsely : Prop := meterReadingsRow.holds Tryz.pinned (OpenSpec.ofChange meterReadingsWrong)

/-- 'kilovarlaw06.MeterProfiles': WHATEVER THE INPUT: true; the input reads as it did. -/
def meterProfilesSpec : ChangeSpec := { name := "meterProfiles", fn := fun _ => fun
  | [d1, d2] => { results := [.lit (.bool true)], args := [d1, d2] }
  | _ => none }
def meterProfilesRow : OpenClaim := { program := "ytkflndifhonbcaagreatdoor", sum := "7ff55d458d624a8a84b475cf6b97c3987030601f7a5b52b98e56909094455724", func := "kilovar/kilovarlaw06.MeterProfiles", spec := "meterProfiles", inPlace := ["math.Float64bits", "math.Float64frombits", "math.archTrunc", "internal/abi.NoEscape", "internal/bytealg.MakeNoZero"], unfollowed := true, recurses := true, named := ["kilovar/meter.names", "internal/strconv.uint64pow10", "math/bits.deBruijn32tab", "math/bits.deBruijn64tab"], apart := false, laid := [("math/bits.deBruijn32tab", laid_math_bits_deBruijn32tab), ("math/bits.deBruijn64tab", laid_math_bits_deBruijn64tab), ("internal/strconv.uint64pow10", laid_internal_strconv_uint64pow10), ("kilovar/meter.names", laid_kilovar_meter_names)] }
def MeterProfilesSaid : Prop := meterProfilesRow.holds Tryz.pinned (OpenSpec.ofChange meterProfilesSpec)

/-- ITS FALSE NEIGHBOUR: 'it returns false'. Refute it at one input. -/
def meterProfilesWrong : ChangeSpec := { name := "meterProfiles", fn := fun _ => fun
  | [d1, d2] => { results := [.lit (.bool false)], args := [d1, d2] }
  | _ => none }
def MeterProfilesWrongFalsely : Prop := meterProfilesRow.holds Tryz.pinned (OpenSpec.ofChange meterProfilesWrong)

/-- 'kilovarlaw06.MeterReads': WHATEVER THE INPUT: true; the input reads as it did. -/
def meterReadsSpec : ChangeSpec := { name := "meterReads", fn := fun _ => fun
  | [d1, d2, d3] => { results := [.lit (.bool true)], args := [d1, d2, d3] }
  | _ => none }
def meterReadsRow : OpenClaim := { program := "ytkflndifhonbcaagreatdoor", sum := "7ff55d458d624a8a84b475cf6b97c3987030601f7a5b52b98e56909094455724", func := "kilovar/kilovarlaw06.MeterReads", spec := "meterReads", inPlace := ["math.Float64bits", "math.Float64frombits", "math.archTrunc", "internal/abi.NoEscape", "internal/bytealg.MakeNoZero"], unfollowed := true, recurses := true, named := ["kilovar/meter.names", "internal/strconv.uint64pow10", "math/bits.deBruijn32tab", "math/bits.deBruijn64tab"], apart := false, laid := [("math/bits.deBruijn32tab", laid_math_bits_deBruijn32tab), ("math/bits.deBruijn64tab", laid_math_bits_deBruijn64tab), ("internal/strconv.uint64pow10", laid_internal_strconv_uint64pow10), ("kilovar/meter.names", laid_kilovar_meter_names)] }
def MeterReadsSaid : Prop := meterReadsRow.holds Tryz.pinned (OpenSpec.ofChange meterReadsSpec)

/-- ITS FALSE NEIGHBOUR: 'it returns false'. Refute it at one input. -/
def meterReadsWrong : ChangeSpec := { name := "meterReads", fn := fun _ => fun
  | [d1, d2, d3] => { results := [.lit (.bool false)], args := [d1, d2, d3] }
  | _ => none }
def MeterReadsWrongFalsely : Prop := meterReadsRow.holds Tryz.pinned (OpenSpec.ofChange meterReadsWrong)

/-- 'kilovarlaw06.MeterBlocks': WHATEVER THE INPUT: true; the input reads as it did. -/
def meterBlocksSpec : ChangeSpec := { name := "meterBlocks", fn := fun _ => fun
  | [d1, d2] => { results := [.lit (.bool true)], args := [d1, d2] }
  | _ => none }
def meterBlocksRow : OpenClaim := { program := "ytkflndifhonbcaagreatdoor", sum := "7ff55d458d624a8a84b475cf6b97c3987030601f7a5b52b98e56909094455724", func := "kilovar/kilovarlaw06.MeterBlocks", spec := "meterBlocks", inPlace := ["math.Float64bits", "math.Float64frombits", "math.archTrunc", "internal/abi.NoEscape", "internal/bytealg.MakeNoZero"], unfollowed := true, recurses := true, named := ["kilovar/meter.names", "internal/strconv.uint64pow10", "math/bits.deBruijn32tab", "math/bits.deBruijn64tab"], apart := false, laid := [("math/bits.deBruijn32tab", laid_math_bits_deBruijn32tab), ("math/bits.deBruijn64tab", laid_math_bits_deBruijn64tab), ("internal/strconv.uint64pow10", laid_internal_strconv_uint64pow10), ("kilovar/meter.names", laid_kilovar_meter_names)] }
def MeterBlocksSaid : Prop := meterBlocksRow.holds Tryz.pinned (OpenSpec.ofChange meterBlocksSpec)

/-- ITS FALSE NEIGHBOUR: 'it returns false'. Refute it at one input. -/
def meterBlocksWrong : ChangeSpec := { name := "meterBlocks", fn := fun _ => fun
  | [d1, d2] => { results := [.lit (.bool false)], args := [d1, d2] }
  | _ => none }
def MeterBlocksWrongFalsely : Prop := meterBlocksRow.holds Tryz.pinned (OpenSpec.ofChange meterBlocksWrong)

/-- 'kilovarlaw06.MeterClocks': WHATEVER THE INPUT: true; the input reads as it did. -/
def meterClocksSpec : ChangeSpec := { name := "meterClocks", fn := fun _ => fun
  | [d1, d2] => { results := [.lit (.bool true)], args := [d1, d2] }
  | _ => none }
def meterClocksRow : OpenClaim := { program := "ytkflndifhonbcaagreatdoor", sum := "7ff55d458d624a8a84b475cf6b97c3987030601f7a5b52b98e56909094455724", func := "kilovar/kilovarlaw06.MeterClocks", spec := "meterClocks", inPlace := ["math.Float64bits", "math.Float64frombits", "math.archTrunc", "internal/abi.NoEscape", "internal/bytealg.MakeNoZero"], unfollowed := true, recurses := true, named := ["kilovar/meter.names", "internal/strconv.uint64pow10", "math/bits.deBruijn32tab", "math/bits.deBruijn64tab"], apart := false, laid := [("math/bits.deBruijn32tab", laid_math_bits_deBruijn32tab), ("math/bits.deBruijn64tab", laid_math_bits_deBruijn64tab), ("internal/strconv.uint64pow10", laid_internal_strconv_uint64pow10), ("kilovar/meter.names", laid_kilovar_meter_names)] }
def MeterClocksSaid : Prop := meterClocksRow.holds Tryz.pinned (OpenSpec.ofChange meterClocksSpec)

/-- ITS FALSE NEIGHBOUR: 'it returns false'. Refute it at one input. -/
def meterClocksWrong : ChangeSpec := { name := "meterClocks", fn := fun _ => fun
  | [d1, d2] => { results := [.lit (.bool false)], args := [d1, d2] }
  | _ => none }
def MeterClocksWrongFalsely : Prop := meterClocksRow.holds Tryz.pinned (OpenSpec.ofChange meterClocksWrong)

/-- 'kilovarlaw06.MeterIntervals': WHATEVER THE INPUT: true; the input reads as it did. -/
def meterIntervalsSpec : ChangeSpec := { name := "meterIntervals", fn := fun _ => fun
  | [d1, d2, d3] => { results := [.lit (.bool true)], args := [d1, d2, d3] }
  | _ => none }
def meterIntervalsRow : OpenClaim := { program := "ytkflndifhonbcaagreatdoor", sum := "7ff55d458d624a8a84b475cf6b97c3987030601f7a5b52b98e56909094455724", func := "kilovar/kilovarlaw06.MeterIntervals", spec := "meterIntervals", inPlace := ["math.Float64bits", "math.Float64frombits", "math.archTrunc", "internal/abi.NoEscape", "internal/bytealg.MakeNoZero"], unfollowed := true, recurses := true, named := ["kilovar/meter.names", "internal/strconv.uint64pow10", "math/bits.deBruijn32tab", "math/bits.deBruijn64tab"], apart := false, laid := [("math/bits.deBruijn32tab", laid_math_bits_deBruijn32tab), ("math/bits.deBruijn64tab", laid_math_bits_deBruijn64tab), ("internal/strconv.uint64pow10", laid_internal_strconv_uint64pow10), ("kilovar/meter.names", laid_kilovar_meter_names)] }
def MeterIntervalsSaid : Prop := meterIntervalsRow.holds Tryz.pinned (OpenSpec.ofChange meterIntervalsSpec)

/-- ITS FALSE NEIGHBOUR: 'it returns false'. Refute it at one input. -/
def meterIntervalsWrong : ChangeSpec := { name := "meterIntervals", fn := fun _ => fun
  | [d1, d2, d3] => { results := [.lit (.bool false)], args := [d1, d2, d3] }
  | _ => none }
def MeterIntervalsWrongFalsely : Prop := meterIntervalsRow.holds Tryz.pinned (OpenSpec.ofChange meterIntervalsWrong)

/-- 'kilovarlaw06.MeterSplits': WHATEVER THE INPUT: true; the input reads as it did. -/
def meterSplitsSpec : ChangeSpec := { name := "meterSplits", fn := fun _ => fun
  | [d1, d2, d3] => { results := [.lit (.bool true)], args := [d1, d2, d3] }
  | _ => none }
def meterSplitsRow : OpenClaim := { program := "ytkflndifhonbcaagreatdoor", sum := "7ff55d458d624a8a84b475cf6b97c3987030601f7a5b52b98e56909094455724", func := "kilovar/kilovarlaw06.MeterSplits", spec := "meterSplits", inPlace := ["math.Float64bits", "math.Float64frombits", "math.archTrunc", "internal/abi.NoEscape", "internal/bytealg.MakeNoZero"], unfollowed := true, recurses := true, named := ["kilovar/meter.names", "internal/strconv.uint64pow10", "math/bits.deBruijn32tab", "math/bits.deBruijn64tab"], apart := false, laid := [("math/bits.deBruijn32tab", laid_math_bits_deBruijn32tab), ("math/bits.deBruijn64tab", laid_math_bits_deBruijn64tab), ("internal/strconv.uint64pow10", laid_internal_strconv_uint64pow10), ("kilovar/meter.names", laid_kilovar_meter_names)] }
def MeterSplitsSaid : Prop := meterSplitsRow.holds Tryz.pinned (OpenSpec.ofChange meterSplitsSpec)

/-- ITS FALSE NEIGHBOUR: 'it returns false'. Refute it at one input. -/
def meterSplitsWrong : ChangeSpec := { name := "meterSplits", fn := fun _ => fun
  | [d1, d2, d3] => { results := [.lit (.bool false)], args := [d1, d2, d3] }
  | _ => none }
def MeterSplitsWrongFalsely : Prop := meterSplitsRow.holds Tryz.pinned (OpenSpec.ofChange meterSplitsWrong)

/-- 'kilovarlaw06.MeterRings': WHATEVER THE INPUT: true; the input reads as it did. -/
def meterRingsSpec : ChangeSpec := { name := "meterRings", fn := fun _ => fun
  | [d1, d2] => { results := [.lit (.bool true)], args := [d1, d2] }
  | _ => none }
def meterRingsRow : OpenClaim := { program := "ytkflndifhonbcaagreatdoor", sum := "7ff55d458d624a8a84b475cf6b97c3987030601f7a5b52b98e56909094455724", func := "kilovar/kilovarlaw06.MeterRings", spec := "meterRings", inPlace := ["math.Float64bits", "math.Float64frombits", "math.archTrunc", "internal/abi.NoEscape", "internal/bytealg.MakeNoZero"], unfollowed := true, recurses := true, named := ["kilovar/meter.names", "internal/strconv.uint64pow10", "math/bits.deBruijn32tab", "math/bits.deBruijn64tab"], apart := false, laid := [("math/bits.deBruijn32tab", laid_math_bits_deBruijn32tab), ("math/bits.deBruijn64tab", laid_math_bits_deBruijn64tab), ("internal/strconv.uint64pow10", laid_internal_strconv_uint64pow10), ("kilovar/meter.names", laid_kilovar_meter_names)] }
def MeterRingsSaid : Prop := meterRingsRow.holds Tryz.pinned (OpenSpec.ofChange meterRingsSpec)

/-- ITS FALSE NEIGHBOUR: 'it returns false'. Refute it at one input. -/
def meterRingsWrong : ChangeSpec := { name := "meterRings", fn := fun _ => fun
  | [d1, d2] => { results := [.lit (.bool false)], args := [d1, d2] }
  | _ => none }
def MeterRingsWrongFalsely : Prop := meterRingsRow.holds Tryz.pinned (OpenSpec.ofChange meterRingsWrong)

/-- 'kilovarlaw06.MeterSlews': WHATEVER THE INPUT: true; the input reads as it did. -/
def meterSlewsSpec : ChangeSpec := { name := "meterSlews", fn := fun _ => fun
  | [d1, d2] => { results := [.lit (.bool true)], args := [d1, d2] }
  | _ => none }
def meterSlewsRow : OpenClaim := { program := "ytkflndifhonbcaagreatdoor", sum := "7ff55d458d624a8a84b475cf6b97c3987030601f7a5b52b98e56909094455724", func := "kilovar/kilovarlaw06.MeterSlews", spec := "meterSlews", inPlace := ["math.Float64bits", "math.Float64frombits", "math.archTrunc", "internal/abi.NoEscape", "internal/bytealg.MakeNoZero"], unfollowed := true, recurses := true, named := ["kilovar/meter.names", "internal/strconv.uint64pow10", "math/bits.deBruijn32tab", "math/bits.deBruijn64tab"], apart := false, laid := [("math/bits.deBruijn32tab", laid_math_bits_deBruijn32tab), ("math/bits.deBruijn64tab", laid_math_bits_deBruijn64tab), ("internal/strconv.uint64pow10", laid_internal_strconv_uint64pow10), ("kilovar/meter.names", laid_kilovar_meter_names)] }
def MeterSlewsSaid : Prop := meterSlewsRow.holds Tryz.pinned (OpenSpec.ofChange meterSlewsSpec)

/-- ITS FALSE NEIGHBOUR: 'it returns false'. Refute it at one input. -/
def meterSlewsWrong : ChangeSpec := { name := "meterSlews", fn := fun _ => fun
  | [d1, d2] => { results := [.lit (.bool false)], args := [d1, d2] }
  | _ => none }
def MeterSlewsWrongFalsely : Prop := meterSlewsRow.holds Tryz.pinned (OpenSpec.ofChange meterSlewsWrong)

/- THE SECOND FORM. 'bulk': how many values and letters a reading holds, each counted each time it is reached (what is shared counts as often as it is met; a slice's spare places count too). A statement '..UptoSaid' is the law's where the arguments, and the package variables that the reading takes, are together of bulk at most 1048576: NARROWER than '..Said'. Prove '..Said' where nothing that the law and all that it calls make is longer than what came in: it says more and counts as full. Else prove '..UptoSaid'. A law counts once. -/
mutual
def uptoBulk {H : Type} : DataW H → Nat
  | .lit (.string bytes) => bytes.length + 1
  | .lit _ => 1
  | .nil => 1
  | .ptr d => uptoBulk d + 1
  | .slice elems spare => uptoBulkAll elems + uptoBulkAll spare + 1
  | .agg parts => uptoBulkAll parts + 1
  | .iface _ d => uptoBulk d + 1
  | .map entries => uptoBulkEntries entries + 1
  | .held _ => 1
def uptoBulkAll {H : Type} : List (DataW H) → Nat
  | [] => 0
  | d :: r => uptoBulk d + uptoBulkAll r
def uptoBulkEntries {H : Type} : List (Lit × DataW H) → Nat
  | [] => 0
  | x :: r => uptoBulkEntry x + uptoBulkEntries r
def uptoBulkEntry {H : Type} : Lit × DataW H → Nat
  | (.string bytes, d) => bytes.length + uptoBulk d + 1
  | (_, d) => uptoBulk d + 1
 end
def uptoSmall : (H : Type) → List (DataW H) → Bool := fun _ ds => decide (uptoBulkAll ds ≤ 1048576)
def OpenSpec.upto (s : _root_.Go.ChangeSpec) : _root_.Go.OpenSpec := { _root_.Go.OpenSpec.ofChange s with cond := some uptoSmall }

/-- 'kilovarlaw06.MeterCounts', WHERE WHAT IT READS IS OF BULK AT MOST 1048576: true; the input reads as it did. -/
def meterCountsUptoRow : OpenClaim := { program := "ytkflndifhonbcaagreatdoor", sum := "7ff55d458d624a8a84b475cf6b97c3987030601f7a5b52b98e56909094455724", func := "kilovar/kilovarlaw06.MeterCounts", spec := "meterCounts", inPlace := ["math.Float64bits", "math.Float64frombits", "math.archTrunc", "internal/abi.NoEscape", "internal/bytealg.MakeNoZero"], unfollowed := true, recurses := true, named := ["kilovar/meter.names", "internal/strconv.uint64pow10", "math/bits.deBruijn32tab", "math/bits.deBruijn64tab"], apart := false, laid := [("math/bits.deBruijn32tab", laid_math_bits_deBruijn32tab), ("math/bits.deBruijn64tab", laid_math_bits_deBruijn64tab), ("internal/strconv.uint64pow10", laid_internal_strconv_uint64pow10), ("kilovar/meter.names", laid_kilovar_meter_names)], narrowed := true }
def MeterCountsUptoSaid : Prop := meterCountsUptoRow.holds Tryz.pinned (OpenSpec.upto meterCountsSpec)

/-- 'kilovarlaw06.MeterReadings', WHERE WHAT IT READS IS OF BULK AT MOST 1048576: true; the input reads as it did. -/
def meterReadingsUptoRow : OpenClaim := { program := "ytkflndifhonbcaagreatdoor", sum := "7ff55d458d624a8a84b475cf6b97c3987030601f7a5b52b98e56909094455724", func := "kilovar/kilovarlaw06.MeterReadings", spec := "meterReadings", inPlace := ["math.Float64bits", "math.Float64frombits", "math.archTrunc", "internal/abi.NoEscape", "internal/bytealg.MakeNoZero"], unfollowed := true, recurses := true, named := ["kilovar/meter.names", "internal/strconv.uint64pow10", "math/bits.deBruijn32tab", "math/bits.deBruijn64tab"], apart := false, laid := [("math/bits.deBruijn32tab", laid_math_bits_deBruijn32tab), ("math/bits.deBruijn64tab", laid_math_bits_deBruijn64tab), ("internal/strconv.uint64pow10", laid_internal_strconv_uint64pow10), ("kilovar/meter.names", laid_kilovar_meter_names)], narrowed := true }
def MeterReadingsUptoSaid : Prop := meterReadingsUptoRow.holds Tryz.pinned (OpenSpec.upto meterReadingsSpec)

/-- 'kilovarlaw06.MeterProfiles', WHERE WHAT IT READS IS OF BULK AT MOST 1048576: true; the input reads as it did. -/
def meterProfilesUptoRow : OpenClaim := { program := "ytkflndifhonbcaagreatdoor", sum := "7ff55d458d624a8a84b475cf6b97c3987030601f7a5b52b98e56909094455724", func := "kilovar/kilovarlaw06.MeterProfiles", spec := "meterProfiles", inPlace := ["math.Float64bits", "math.Float64frombits", "math.archTrunc", "internal/abi.NoEscape", "internal/bytealg.MakeNoZero"], unfollowed := true, recurses := true, named := ["kilovar/meter.names", "internal/strconv.uint64pow10", "math/bits.deBruijn32tab", "math/bits.deBruijn64tab"], apart := false, laid := [("math/bits.deBruijn32tab", laid_math_bits_deBruijn32tab), ("math/bits.deBruijn64tab", laid_math_bits_deBruijn64tab), ("internal/strconv.uint64pow10", laid_internal_strconv_uint64pow10), ("kilovar/meter.names", laid_kilovar_meter_names)], narrowed := true }
def MeterProfilesUptoSaid : Prop := meterProfilesUptoRow.holds Tryz.pinned (OpenSpec.upto meterProfilesSpec)

/-- 'kilovarlaw06.MeterReads', WHERE WHAT IT READS IS OF BULK AT MOST 1048576: true; the input reads as it did. -/
def meterReadsUptoRow : OpenClaim := { program := "ytkflndifhonbcaagreatdoor", sum := "7ff55d458d624a8a84b475cf6b97c3987030601f7a5b52b98e56909094455724", func := "kilovar/kilovarlaw06.MeterReads", spec := "meterReads", inPlace := ["math.Float64bits", "math.Float64frombits", "math.archTrunc", "internal/abi.NoEscape", "internal/bytealg.MakeNoZero"], unfollowed := true, recurses := true, named := ["kilovar/meter.names", "internal/strconv.uint64pow10", "math/bits.deBruijn32tab", "math/bits.deBruijn64tab"], apart := false, laid := [("math/bits.deBruijn32tab", laid_math_bits_deBruijn32tab), ("math/bits.deBruijn64tab", laid_math_bits_deBruijn64tab), ("internal/strconv.uint64pow10", laid_internal_strconv_uint64pow10), ("kilovar/meter.names", laid_kilovar_meter_names)], narrowed := true }
def MeterReadsUptoSaid : Prop := meterReadsUptoRow.holds Tryz.pinned (OpenSpec.upto meterReadsSpec)

/-- 'kilovarlaw06.MeterBlocks', WHERE WHAT IT READS IS OF BULK AT MOST 1048576: true; the input reads as it did. -/
def meterBlocksUptoRow : OpenClaim := { program := "ytkflndifhonbcaagreatdoor", sum := "7ff55d458d624a8a84b475cf6b97c3987030601f7a5b52b98e56909094455724", func := "kilovar/kilovarlaw06.MeterBlocks", spec := "meterBlocks", inPlace := ["math.Float64bits", "math.Float64frombits", "math.archTrunc", "internal/abi.NoEscape", "internal/bytealg.MakeNoZero"], unfollowed := true, recurses := true, named := ["kilovar/meter.names", "internal/strconv.uint64pow10", "math/bits.deBruijn32tab", "math/bits.deBruijn64tab"], apart := false, laid := [("math/bits.deBruijn32tab", laid_math_bits_deBruijn32tab), ("math/bits.deBruijn64tab", laid_math_bits_deBruijn64tab), ("internal/strconv.uint64pow10", laid_internal_strconv_uint64pow10), ("kilovar/meter.names", laid_kilovar_meter_names)], narrowed := true }
def MeterBlocksUptoSaid : Prop := meterBlocksUptoRow.holds Tryz.pinned (OpenSpec.upto meterBlocksSpec)

/-- 'kilovarlaw06.MeterClocks', WHERE WHAT IT READS IS OF BULK AT MOST 1048576: true; the input reads as it did. -/
def meterClocksUptoRow : OpenClaim := { program := "ytkflndifhonbcaagreatdoor", sum := "7ff55d458d624a8a84b475cf6b97c3987030601f7a5b52b98e56909094455724", func := "kilovar/kilovarlaw06.MeterClocks", spec := "meterClocks", inPlace := ["math.Float64bits", "math.Float64frombits", "math.archTrunc", "internal/abi.NoEscape", "internal/bytealg.MakeNoZero"], unfollowed := true, recurses := true, named := ["kilovar/meter.names", "internal/strconv.uint64pow10", "math/bits.deBruijn32tab", "math/bits.deBruijn64tab"], apart := false, laid := [("math/bits.deBruijn32tab", laid_math_bits_deBruijn32tab), ("math/bits.deBruijn64tab", laid_math_bits_deBruijn64tab), ("internal/strconv.uint64pow10", laid_internal_strconv_uint64pow10), ("kilovar/meter.names", laid_kilovar_meter_names)], narrowed := true }
def MeterClocksUptoSaid : Prop := meterClocksUptoRow.holds Tryz.pinned (OpenSpec.upto meterClocksSpec)

/-- 'kilovarlaw06.MeterIntervals', WHERE WHAT IT READS IS OF BULK AT MOST 1048576: true; the input reads as it did. -/
def meterIntervalsUptoRow : OpenClaim := { program := "ytkflndifhonbcaagreatdoor", sum := "7ff55d458d624a8a84b475cf6b97c3987030601f7a5b52b98e56909094455724", func := "kilovar/kilovarlaw06.MeterIntervals", spec := "meterIntervals", inPlace := ["math.Float64bits", "math.Float64frombits", "math.archTrunc", "internal/abi.NoEscape", "internal/bytealg.MakeNoZero"], unfollowed := true, recurses := true, named := ["kilovar/meter.names", "internal/strconv.uint64pow10", "math/bits.deBruijn32tab", "math/bits.deBruijn64tab"], apart := false, laid := [("math/bits.deBruijn32tab", laid_math_bits_deBruijn32tab), ("math/bits.deBruijn64tab", laid_math_bits_deBruijn64tab), ("internal/strconv.uint64pow10", laid_internal_strconv_uint64pow10), ("kilovar/meter.names", laid_kilovar_meter_names)], narrowed := true }
def MeterIntervalsUptoSaid : Prop := meterIntervalsUptoRow.holds Tryz.pinned (OpenSpec.upto meterIntervalsSpec)

/-- 'kilovarlaw06.MeterSplits', WHERE WHAT IT READS IS OF BULK AT MOST 1048576: true; the input reads as it did. -/
def meterSplitsUptoRow : OpenClaim := { program := "ytkflndifhonbcaagreatdoor", sum := "7ff55d458d624a8a84b475cf6b97c3987030601f7a5b52b98e56909094455724", func := "kilovar/kilovarlaw06.MeterSplits", spec := "meterSplits", inPlace := ["math.Float64bits", "math.Float64frombits", "math.archTrunc", "internal/abi.NoEscape", "internal/bytealg.MakeNoZero"], unfollowed := true, recurses := true, named := ["kilovar/meter.names", "internal/strconv.uint64pow10", "math/bits.deBruijn32tab", "math/bits.deBruijn64tab"], apart := false, laid := [("math/bits.deBruijn32tab", laid_math_bits_deBruijn32tab), ("math/bits.deBruijn64tab", laid_math_bits_deBruijn64tab), ("internal/strconv.uint64pow10", laid_internal_strconv_uint64pow10), ("kilovar/meter.names", laid_kilovar_meter_names)], narrowed := true }
def MeterSplitsUptoSaid : Prop := meterSplitsUptoRow.holds Tryz.pinned (OpenSpec.upto meterSplitsSpec)

/-- 'kilovarlaw06.MeterRings', WHERE WHAT IT READS IS OF BULK AT MOST 1048576: true; the input reads as it did. -/
def meterRingsUptoRow : OpenClaim := { program := "ytkflndifhonbcaagreatdoor", sum := "7ff55d458d624a8a84b475cf6b97c3987030601f7a5b52b98e56909094455724", func := "kilovar/kilovarlaw06.MeterRings", spec := "meterRings", inPlace := ["math.Float64bits", "math.Float64frombits", "math.archTrunc", "internal/abi.NoEscape", "internal/bytealg.MakeNoZero"], unfollowed := true, recurses := true, named := ["kilovar/meter.names", "internal/strconv.uint64pow10", "math/bits.deBruijn32tab", "math/bits.deBruijn64tab"], apart := false, laid := [("math/bits.deBruijn32tab", laid_math_bits_deBruijn32tab), ("math/bits.deBruijn64tab", laid_math_bits_deBruijn64tab), ("internal/strconv.uint64pow10", laid_internal_strconv_uint64pow10), ("kilovar/meter.names", laid_kilovar_meter_names)], narrowed := true }
def MeterRingsUptoSaid : Prop := meterRingsUptoRow.holds Tryz.pinned (OpenSpec.upto meterRingsSpec)

/-- 'kilovarlaw06.MeterSlews', WHERE WHAT IT READS IS OF BULK AT MOST 1048576: true; the input reads as it did. -/
def meterSlewsUptoRow : OpenClaim := { program := "ytkflndifhonbcaagreatdoor", sum := "7ff55d458d624a8a84b475cf6b97c3987030601f7a5b52b98e56909094455724", func := "kilovar/kilovarlaw06.MeterSlews", spec := "meterSlews", inPlace := ["math.Float64bits", "math.Float64frombits", "math.archTrunc", "internal/abi.NoEscape", "internal/bytealg.MakeNoZero"], unfollowed := true, recurses := true, named := ["kilovar/meter.names", "internal/strconv.uint64pow10", "math/bits.deBruijn32tab", "math/bits.deBruijn64tab"], apart := false, laid := [("math/bits.deBruijn32tab", laid_math_bits_deBruijn32tab), ("math/bits.deBruijn64tab", laid_math_bits_deBruijn64tab), ("internal/strconv.uint64pow10", laid_internal_strconv_uint64pow10), ("kilovar/meter.names", laid_kilovar_meter_names)], narrowed := true }
def MeterSlewsUptoSaid : Prop := meterSlewsUptoRow.holds Tryz.pinned (OpenSpec.upto meterSlewsSpec)

end Rows
end Go.Proofs.YtkflndifhonbcaaGreatDoor
