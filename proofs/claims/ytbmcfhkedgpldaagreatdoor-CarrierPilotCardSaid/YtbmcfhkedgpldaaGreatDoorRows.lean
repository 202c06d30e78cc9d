/-
  NARROWER THAN 'FOR EVERY INPUT', by the rows' own cells (each row's printed sentence says how): CarrierNames: laid · CarrierPowers: laid · CarrierWaves: laid · CarrierModulates: laid · CarrierFinds: laid · CarrierStreams: laid · CarrierStrings: laid · CarrierClean: laid · CarrierPilot: laid · CarrierBack: laid.
  DERIVED. THE GIVEN ROWS OF THIS SEAT. 10 by the template 'for every input the law returns true; each argument reads behind the call as it read before'; 0 by the template 'total and deterministic' (their statements: YtbmcfhkedgpldaaGreatDoorTotals.lean).
  GIVEN WITH THE SEED: the statements are not yours to turn. If you find one false, say at which input.
  Laid BY PROGRAM, IN A SANDBOX (cutbox-rows.mjs): the forced cells as the released guide's own fill.sh prints them over the translation e51ca42ed3c7a665… (all of the seat's roots in one cut). By AI agents, Wed Nov 11 2026. No macro, syntax, notation, axiom, sorry.
-/
import Derived.Test.YtbmcfhkedgpldaaGreatDoorChecked
import GoSem.PinnedTables
import GoSem.Claim
import GoSem.ClaimJoined
import GoSem.ClaimMapViews
import Derived.JoinedTies
import Derived.KernelRfl
namespace Go.Proofs.YtbmcfhkedgpldaaGreatDoor
/- THE CELL 'sum', in the pinned program and in every row, IS THE sha256 OF THE DUMP (.gsa) THAT YtbmcfhkedgpldaaGreatDoorProg.lean LOADS. Nothing in Lean hashes anything: it is a label: what it is worth is what the hold of that sum in a sandbox is worth. -/
noncomputable def Tryz.pinned : Pinned := { name := "ytbmcfhkedgpldaagreatdoor", sum := "e51ca42ed3c7a66527e1cd47a1016b41ca409893dc987f575a4f9ebae5120b32", checked := Tryz.checked }
namespace Rows
def none {H : Type} : Left H := { results := [], args := [] }

/- WHAT THE LISTED PACKAGE-LEVEL VARIABLES READ AS WHEN THE CALL BEGINS. Each datum BY PROGRAM (the guide's laid-datum.mjs) off the statement by which the dump's own 'gosem.cut.vars' lays the variable. In a bare row this is a premise. The card (YtbmcfhkedgpldaaGreatDoorCards.lean) ties it to the program's text. -/
def laid_math_bits_deBruijn32tab {H : Type} : DataW H := .agg [.lit (.int .u8 0), .lit (.int .u8 1), .lit (.int .u8 28), .lit (.int .u8 2), .lit (.int .u8 29), .lit (.int .u8 14), .lit (.int .u8 24), .lit (.int .u8 3), .lit (.int .u8 30), .lit (.int .u8 22), .lit (.int .u8 20), .lit (.int .u8 15), .lit (.int .u8 25), .lit (.int .u8 17), .lit (.int .u8 4), .lit (.int .u8 8), .lit (.int .u8 31), .lit (.int .u8 27), .lit (.int .u8 13), .lit (.int .u8 23), .lit (.int .u8 21), .lit (.int .u8 19), .lit (.int .u8 16), .lit (.int .u8 7), .lit (.int .u8 26), .lit (.int .u8 12), .lit (.int .u8 18), .lit (.int .u8 6), .lit (.int .u8 11), .lit (.int .u8 5), .lit (.int .u8 10), .lit (.int .u8 9)]
def laid_math_bits_deBruijn64tab {H : Type} : DataW H := .agg [.lit (.int .u8 0), .lit (.int .u8 1), .lit (.int .u8 56), .lit (.int .u8 2), .lit (.int .u8 57), .lit (.int .u8 49), .lit (.int .u8 28), .lit (.int .u8 3), .lit (.int .u8 61), .lit (.int .u8 58), .lit (.int .u8 42), .lit (.int .u8 50), .lit (.int .u8 38), .lit (.int .u8 29), .lit (.int .u8 17), .lit (.int .u8 4), .lit (.int .u8 62), .lit (.int .u8 47), .lit (.int .u8 59), .lit (.int .u8 36), .lit (.int .u8 45), .lit (.int .u8 43), .lit (.int .u8 51), .lit (.int .u8 22), .lit (.int .u8 53), .lit (.int .u8 39), .lit (.int .u8 33), .lit (.int .u8 30), .lit (.int .u8 24), .lit (.int .u8 18), .lit (.int .u8 12), .lit (.int .u8 5), .lit (.int .u8 63), .lit (.int .u8 55), .lit (.int .u8 48), .lit (.int .u8 27), .lit (.int .u8 60), .lit (.int .u8 41), .lit (.int .u8 37), .lit (.int .u8 16), .lit (.int .u8 46), .lit (.int .u8 35), .lit (.int .u8 44), .lit (.int .u8 21), .lit (.int .u8 52), .lit (.int .u8 32), .lit (.int .u8 23), .lit (.int .u8 11), .lit (.int .u8 54), .lit (.int .u8 26), .lit (.int .u8 40), .lit (.int .u8 15), .lit (.int .u8 34), .lit (.int .u8 20), .lit (.int .u8 31), .lit (.int .u8 10), .lit (.int .u8 25), .lit (.int .u8 14), .lit (.int .u8 19), .lit (.int .u8 9), .lit (.int .u8 13), .lit (.int .u8 8), .lit (.int .u8 7), .lit (.int .u8 6)]
def laid_internal_strconv_uint64pow10 {H : Type} : DataW H := .agg [.lit (.int .u64 1), .lit (.int .u64 10), .lit (.int .u64 100), .lit (.int .u64 1000), .lit (.int .u64 10000), .lit (.int .u64 100000), .lit (.int .u64 1000000), .lit (.int .u64 10000000), .lit (.int .u64 100000000), .lit (.int .u64 1000000000), .lit (.int .u64 10000000000), .lit (.int .u64 100000000000), .lit (.int .u64 1000000000000), .lit (.int .u64 10000000000000), .lit (.int .u64 100000000000000), .lit (.int .u64 1000000000000000), .lit (.int .u64 10000000000000000), .lit (.int .u64 100000000000000000), .lit (.int .u64 1000000000000000000), .lit (.int .u64 10000000000000000000)]
def laid_kilovar_carrier_pairs {H : Type} : DataW H := .agg [.lit (.int .i64 0), .lit (.int .i64 1), .lit (.int .i64 3), .lit (.int .i64 2)]
def laid_kilovar_carrier_turns {H : Type} : DataW H := .agg [.agg [.lit (.int .i64 1), .lit (.int .i64 0)], .agg [.lit (.int .i64 0), .lit (.int .i64 1)], .agg [.lit (.int .i64 (-1)), .lit (.int .i64 0)], .agg [.lit (.int .i64 0), .lit (.int .i64 (-1))]]
def laid_unicode_utf8_acceptRanges {H : Type} : DataW H := .agg [.agg [.lit (.int .u8 128), .lit (.int .u8 191)], .agg [.lit (.int .u8 160), .lit (.int .u8 191)], .agg [.lit (.int .u8 128), .lit (.int .u8 159)], .agg [.lit (.int .u8 144), .lit (.int .u8 191)], .agg [.lit (.int .u8 128), .lit (.int .u8 143)], .agg [.lit (.int .u8 0), .lit (.int .u8 0)], .agg [.lit (.int .u8 0), .lit (.int .u8 0)], .agg [.lit (.int .u8 0), .lit (.int .u8 0)], .agg [.lit (.int .u8 0), .lit (.int .u8 0)], .agg [.lit (.int .u8 0), .lit (.int .u8 0)], .agg [.lit (.int .u8 0), .lit (.int .u8 0)], .agg [.lit (.int .u8 0), .lit (.int .u8 0)], .agg [.lit (.int .u8 0), .lit (.int .u8 0)], .agg [.lit (.int .u8 0), .lit (.int .u8 0)], .agg [.lit (.int .u8 0), .lit (.int .u8 0)], .agg [.lit (.int .u8 0), .lit (.int .u8 0)]]
def laid_strconv_ErrRange {H : Type} : DataW H := .iface "*errors.errorString" (.ptr (.agg [.lit (.string [118, 97, 108, 117, 101, 32, 111, 117, 116, 32, 111, 102, 32, 114, 97, 110, 103, 101])]))
def laid_strconv_ErrSyntax {H : Type} : DataW H := .iface "*errors.errorString" (.ptr (.agg [.lit (.string [105, 110, 118, 97, 108, 105, 100, 32, 115, 121, 110, 116, 97, 120])]))
/-- One of Go's own tables, pinned by name: the form's constant. -/
def laid_unicode_utf8_first : DataW Unit := Go.Pinned.utf8First

/-- 'kilovarlaw01.CarrierNames': WHATEVER THE INPUT: true; the input reads as it did. -/
def carrierNamesSpec : ChangeSpec := { name := "carrierNames", fn := fun _ => fun
  | [d1, d2, d3] => { results := [.lit (.bool true)], args := [d1, d2, d3] }
  | _ => none }
def carrierNamesRow : OpenClaim := { program := "ytbmcfhkedgpldaagreatdoor", sum := "e51ca42ed3c7a66527e1cd47a1016b41ca409893dc987f575a4f9ebae5120b32", func := "kilovar/kilovarlaw01.CarrierNames", spec := "carrierNames", inPlace := ["math.Float64bits", "math.Float64frombits", "math.archTrunc", "internal/abi.NoEscape", "math.Float32bits"], unfollowed := true, recurses := true, named := ["kilovar/carrier.turns", "kilovar/carrier.pairs", "internal/strconv.uint64pow10", "math/bits.deBruijn32tab", "math/bits.deBruijn64tab"], apart := false, laid := [("math/bits.deBruijn32tab", laid_math_bits_deBruijn32tab), ("math/bits.deBruijn64tab", laid_math_bits_deBruijn64tab), ("internal/strconv.uint64pow10", laid_internal_strconv_uint64pow10), ("kilovar/carrier.pairs", laid_kilovar_carrier_pairs), ("kilovar/carrier.turns", laid_kilovar_carrier_turns)] }
def CarrierNamesSaid : Prop := carrierNamesRow.holds Tryz.pinned (OpenSpec.ofChange carrierNamesSpec)

/-- ITS FALSE NEIGHBOUR: 'it returns false'. Refute it at one input. -/
def carrierNamesWrong : ChangeSpec := { name := "carrierNames", fn := fun _ => fun
  | [d1, d2, d3] => { results := [.lit (.bool false)], args := [d1, d2, d3] }
  | _ => none }
def CarrierNamesWrongFalsely : Prop := carrierNamesRow.holds Tryz.pinned (OpenSpec.ofChange carrierNamesWrong)

/-- 'kilovarlaw01.CarrierPowers': WHATEVER THE INPUT: true; the input reads as it did. -/
def carrierPowersSpec : ChangeSpec := { name := "carrierPowers", fn := fun _ => fun
  | [d1, d2, d3] => { results := [.lit (.bool true)], args := [d1, d2, d3] }
  | _ => none }
def carrierPowersRow : OpenClaim := { program := "ytbmcfhkedgpldaagreatdoor", sum := "e51ca42ed3c7a66527e1cd47a1016b41ca409893dc987f575a4f9ebae5120b32", func := "kilovar/kilovarlaw01.CarrierPowers", spec := "carrierPowers", inPlace := ["math.Float64bits", "math.Float64frombits", "math.archTrunc", "internal/abi.NoEscape", "math.Float32bits"], unfollowed := true, recurses := true, named := ["kilovar/carrier.turns", "kilovar/carrier.pairs", "internal/strconv.uint64pow10", "math/bits.deBruijn32tab", "math/bits.deBruijn64tab"], apart := false, laid := [("math/bits.deBruijn32tab", laid_math_bits_deBruijn32tab), ("math/bits.deBruijn64tab", laid_math_bits_deBruijn64tab), ("internal/strconv.uint64pow10", laid_internal_strconv_uint64pow10), ("kilovar/carrier.pairs", laid_kilovar_carrier_pairs), ("kilovar/carrier.turns", laid_kilovar_carrier_turns)] }
def CarrierPowersSaid : Prop := carrierPowersRow.holds Tryz.pinned (OpenSpec.ofChange carrierPowersSpec)

/-- ITS FALSE NEIGHBOUR: 'it returns false'. Refute it at one input. -/
def carrierPowersWrong : ChangeSpec := { name := "carrierPowers", fn := fun _ => fun
  | [d1, d2, d3] => { results := [.lit (.bool false)], args := [d1, d2, d3] }
  | _ => none }
def CarrierPowersWrongFalsely : Prop := carrierPowersRow.holds Tryz.pinned (OpenSpec.ofChange carrierPowersWrong)

/-- 'kilovarlaw01.CarrierWaves': WHATEVER THE INPUT: true; the input reads as it did. -/
def carrierWavesSpec : ChangeSpec := { name := "carrierWaves", fn := fun _ => fun
  | [d1, d2] => { results := [.lit (.bool true)], args := [d1, d2] }
  | _ => none }
def carrierWavesRow : OpenClaim := { program := "ytbmcfhkedgpldaagreatdoor", sum := "e51ca42ed3c7a66527e1cd47a1016b41ca409893dc987f575a4f9ebae5120b32", func := "kilovar/kilovarlaw01.CarrierWaves", spec := "carrierWaves", inPlace := ["math.Float64bits", "math.Float64frombits", "math.archTrunc", "internal/abi.NoEscape", "math.Float32bits"], unfollowed := true, recurses := true, named := ["kilovar/carrier.turns", "kilovar/carrier.pairs", "internal/strconv.uint64pow10", "math/bits.deBruijn32tab", "math/bits.deBruijn64tab"], apart := false, laid := [("math/bits.deBruijn32tab", laid_math_bits_deBruijn32tab), ("math/bits.deBruijn64tab", laid_math_bits_deBruijn64tab), ("internal/strconv.uint64pow10", laid_internal_strconv_uint64pow10), ("kilovar/carrier.pairs", laid_kilovar_carrier_pairs), ("kilovar/carrier.turns", laid_kilovar_carrier_turns)] }
def CarrierWavesSaid : Prop := carrierWavesRow.holds Tryz.pinned (OpenSpec.ofChange carrierWavesSpec)

/-- ITS FALSE NEIGHBOUR: 'it returns false'. Refute it at one input. -/
def carrierWavesWrong : ChangeSpec := { name := "carrierWaves", fn := fun _ => fun
  | [d1, d2] => { results := [.lit (.bool false)], args := [d1, d2] }
  | _ => none }
def CarrierWavesWrongFalsely : Prop := carrierWavesRow.holds Tryz.pinned (OpenSpec.ofChange carrierWavesWrong)

/-- 'kilovarlaw01.CarrierModulates': WHATEVER THE INPUT: true; the input reads as it did. -/
def carrierModulatesSpec : ChangeSpec := { name := "carrierModulates", fn := fun _ => fun
  | [d1, d2, d3] => { results := [.lit (.bool true)], args := [d1, d2, d3] }
  | _ => none }
def carrierModulatesRow : OpenClaim := { program := "ytbmcfhkedgpldaagreatdoor", sum := "e51ca42ed3c7a66527e1cd47a1016b41ca409893dc987f575a4f9ebae5120b32", func := "kilovar/kilovarlaw01.CarrierModulates", spec := "carrierModulates", inPlace := ["math.Float64bits", "math.Float64frombits", "math.archTrunc", "internal/abi.NoEscape", "math.Float32bits"], unfollowed := true, recurses := true, named := ["kilovar/carrier.turns", "kilovar/carrier.pairs", "internal/strconv.uint64pow10", "math/bits.deBruijn32tab", "math/bits.deBruijn64tab"], apart := false, laid := [("math/bits.deBruijn32tab", laid_math_bits_deBruijn32tab), ("math/bits.deBruijn64tab", laid_math_bits_deBruijn64tab), ("internal/strconv.uint64pow10", laid_internal_strconv_uint64pow10), ("kilovar/carrier.pairs", laid_kilovar_carrier_pairs), ("kilovar/carrier.turns", laid_kilovar_carrier_turns)] }
def CarrierModulatesSaid : Prop := carrierModulatesRow.holds Tryz.pinned (OpenSpec.ofChange carrierModulatesSpec)

/-- ITS FALSE NEIGHBOUR: 'it returns false'. Refute it at one input. -/
def carrierModulatesWrong : ChangeSpec := { name := "carrierModulates", fn := fun _ => fun
  | [d1, d2, d3] => { results := [.lit (.bool false)], args := [d1, d2, d3] }
  | _ => none }
def CarrierModulatesWrongFalsely : Prop := carrierModulatesRow.holds Tryz.pinned (OpenSpec.ofChange carrierModulatesWrong)

/-- 'kilovarlaw01.CarrierFinds': WHATEVER THE INPUT: true; the input reads as it did. -/
def carrierFindsSpec : ChangeSpec := { name := "carrierFinds", fn := fun _ => fun
  | [d1, d2] => { results := [.lit (.bool true)], args := [d1, d2] }
  | _ => none }
def carrierFindsRow : OpenClaim := { program := "ytbmcfhkedgpldaagreatdoor", sum := "e51ca42ed3c7a66527e1cd47a1016b41ca409893dc987f575a4f9ebae5120b32", func := "kilovar/kilovarlaw01.CarrierFinds", spec := "carrierFinds", inPlace := ["math.Float64bits", "math.Float64frombits", "math.archTrunc", "internal/abi.NoEscape", "math.Float32bits"], unfollowed := true, recurses := true, named := ["kilovar/carrier.turns", "kilovar/carrier.pairs", "internal/strconv.uint64pow10", "math/bits.deBruijn32tab", "math/bits.deBruijn64tab"], apart := false, laid := [("math/bits.deBruijn32tab", laid_math_bits_deBruijn32tab), ("math/bits.deBruijn64tab", laid_math_bits_deBruijn64tab), ("internal/strconv.uint64pow10", laid_internal_strconv_uint64pow10), ("kilovar/carrier.pairs", laid_kilovar_carrier_pairs), ("kilovar/carrier.turns", laid_kilovar_carrier_turns)] }
def CarrierFindsSaid : Prop := carrierFindsRow.holds Tryz.pinned (OpenSpec.ofChange carrierFindsSpec)

/-- ITS FALSE NEIGHBOUR: 'it returns false'. Refute it at one input. -/
def carrierFindsWrong : ChangeSpec := { name := "carrierFinds", fn := fun _ => fun
  | [d1, d2] => { results := [.lit (.bool false)], args := [d1, d2] }
  | _ => none }
def CarrierFindsWrongFalsely : Prop := carrierFindsRow.holds Tryz.pinned (OpenSpec.ofChange carrierFindsWrong)

/-- 'kilovarlaw01.CarrierStreams': WHATEVER THE INPUT: true; the input reads as it did. -/
def carrierStreamsSpec : ChangeSpec := { name := "carrierStreams", fn := fun _ => fun
  | [d1, d2] => { results := [.lit (.bool true)], args := [d1, d2] }
  | _ => none }
def carrierStreamsRow : OpenClaim := { program := "ytbmcfhkedgpldaagreatdoor", sum := "e51ca42ed3c7a66527e1cd47a1016b41ca409893dc987f575a4f9ebae5120b32", func := "kilovar/kilovarlaw01.CarrierStreams", spec := "carrierStreams", inPlace := ["math.Float64bits", "math.Float64frombits", "math.archTrunc", "internal/abi.NoEscape", "math.Float32bits", "math.Float32frombits"], unfollowed := true, recurses := true, named := ["kilovar/carrier.turns", "kilovar/carrier.pairs", "internal/strconv.uint64pow10", "math/bits.deBruijn32tab", "math/bits.deBruijn64tab"], apart := false, laid := [("math/bits.deBruijn32tab", laid_math_bits_deBruijn32tab), ("math/bits.deBruijn64tab", laid_math_bits_deBruijn64tab), ("internal/strconv.uint64pow10", laid_internal_strconv_uint64pow10), ("kilovar/carrier.pairs", laid_kilovar_carrier_pairs), ("kilovar/carrier.turns", laid_kilovar_carrier_turns)] }
def CarrierStreamsSaid : Prop := carrierStreamsRow.holds Tryz.pinned (OpenSpec.ofChange carrierStreamsSpec)

/-- ITS FALSE NEIGHBOUR: 'it returns false'. Refute it at one input. -/
def carrierStreamsWrong : ChangeSpec := { name := "carrierStreams", fn := fun _ => fun
  | [d1, d2] => { results := [.lit (.bool false)], args := [d1, d2] }
  | _ => none }
def CarrierStreamsWrongFalsely : Prop := carrierStreamsRow.holds Tryz.pinned (OpenSpec.ofChange carrierStreamsWrong)

/-- 'kilovarlaw01.CarrierStrings': WHATEVER THE INPUT: true; the input reads as it did. -/
def carrierStringsSpec : ChangeSpec := { name := "carrierStrings", fn := fun _ => fun
  | [d1, d2] => { results := [.lit (.bool true)], args := [d1, d2] }
  | _ => none }
def carrierStringsRow : OpenClaim := { program := "ytbmcfhkedgpldaagreatdoor", sum := "e51ca42ed3c7a66527e1cd47a1016b41ca409893dc987f575a4f9ebae5120b32", func := "kilovar/kilovarlaw01.CarrierStrings", spec := "carrierStrings", inPlace := ["math.Float64bits", "math.Float64frombits", "math.archTrunc", "internal/abi.NoEscape", "math.Float32bits", "internal/bytealg.CountString", "internal/bytealg.IndexByteString", "internal/bytealg.IndexString"], unfollowed := true, recurses := true, named := ["kilovar/carrier.turns", "kilovar/carrier.pairs", "internal/strconv.uint64pow10", "math/bits.deBruijn32tab", "math/bits.deBruijn64tab", "unicode/utf8.first", "unicode/utf8.acceptRanges", "internal/bytealg.MaxLen", "strconv.ErrSyntax", "strconv.ErrRange"], apart := false, laid := [("math/bits.deBruijn32tab", laid_math_bits_deBruijn32tab), ("math/bits.deBruijn64tab", laid_math_bits_deBruijn64tab), ("internal/strconv.uint64pow10", laid_internal_strconv_uint64pow10), ("unicode/utf8.acceptRanges", laid_unicode_utf8_acceptRanges), ("strconv.ErrRange", laid_strconv_ErrRange), ("strconv.ErrSyntax", laid_strconv_ErrSyntax), ("kilovar/carrier.pairs", laid_kilovar_carrier_pairs), ("kilovar/carrier.turns", laid_kilovar_carrier_turns), ("unicode/utf8.first", laid_unicode_utf8_first)] }
def CarrierStringsSaid : Prop := carrierStringsRow.holds Tryz.pinned (OpenSpec.ofChange carrierStringsSpec)

/-- ITS FALSE NEIGHBOUR: 'it returns false'. Refute it at one input. -/
def carrierStringsWrong : ChangeSpec := { name := "carrierStrings", fn := fun _ => fun
  | [d1, d2] => { results := [.lit (.bool false)], args := [d1, d2] }
  | _ => none }
def CarrierStringsWrongFalsely : Prop := carrierStringsRow.holds Tryz.pinned (OpenSpec.ofChange carrierStringsWrong)

/-- 'kilovarlaw01.CarrierClean': WHATEVER THE INPUT: true; the input reads as it did. -/
def carrierCleanSpec : ChangeSpec := { name := "carrierClean", fn := fun _ => fun
  | [d1, d2, d3] => { results := [.lit (.bool true)], args := [d1, d2, d3] }
  | _ => none }
def carrierCleanRow : OpenClaim := { program := "ytbmcfhkedgpldaagreatdoor", sum := "e51ca42ed3c7a66527e1cd47a1016b41ca409893dc987f575a4f9ebae5120b32", func := "kilovar/kilovarlaw01.CarrierClean", spec := "carrierClean", inPlace := ["math.Float64bits", "math.Float64frombits", "math.archTrunc", "internal/abi.NoEscape", "math.Float32bits"], unfollowed := true, recurses := true, named := ["kilovar/carrier.turns", "kilovar/carrier.pairs", "internal/strconv.uint64pow10", "math/bits.deBruijn32tab", "math/bits.deBruijn64tab"], apart := false, laid := [("math/bits.deBruijn32tab", laid_math_bits_deBruijn32tab), ("math/bits.deBruijn64tab", laid_math_bits_deBruijn64tab), ("internal/strconv.uint64pow10", laid_internal_strconv_uint64pow10), ("kilovar/carrier.pairs", laid_kilovar_carrier_pairs), ("kilovar/carrier.turns", laid_kilovar_carrier_turns)] }
def CarrierCleanSaid : Prop := carrierCleanRow.holds Tryz.pinned (OpenSpec.ofChange carrierCleanSpec)

/-- ITS FALSE NEIGHBOUR: 'it returns false'. Refute it at one input. -/
def carrierCleanWrong : ChangeSpec := { name := "carrierClean", fn := fun _ => fun
  | [d1, d2, d3] => { results := [.lit (.bool false)], args := [d1, d2, d3] }
  | _ => none }
def CarrierCleanWrongFalsely : Prop := carrierCleanRow.holds Tryz.pinned (OpenSpec.ofChange carrierCleanWrong)

/-- 'kilovarlaw01.CarrierPilot': WHATEVER THE INPUT: true; the input reads as it did. -/
def carrierPilotSpec : ChangeSpec := { name := "carrierPilot", fn := fun _ => fun
  | [d1, d2] => { results := [.lit (.bool true)], args := [d1, d2] }
  | _ => none }
def carrierPilotRow : OpenClaim := { program := "ytbmcfhkedgpldaagreatdoor", sum := "e51ca42ed3c7a66527e1cd47a1016b41ca409893dc987f575a4f9ebae5120b32", func := "kilovar/kilovarlaw01.CarrierPilot", spec := "carrierPilot", inPlace := ["math.Float64bits", "math.Float64frombits", "math.archTrunc", "internal/abi.NoEscape", "math.Float32bits"], unfollowed := true, recurses := true, named := ["kilovar/carrier.turns", "kilovar/carrier.pairs", "internal/strconv.uint64pow10", "math/bits.deBruijn32tab", "math/bits.deBruijn64tab"], apart := false, laid := [("math/bits.deBruijn32tab", laid_math_bits_deBruijn32tab), ("math/bits.deBruijn64tab", laid_math_bits_deBruijn64tab), ("internal/strconv.uint64pow10", laid_internal_strconv_uint64pow10), ("kilovar/carrier.pairs", laid_kilovar_carrier_pairs), ("kilovar/carrier.turns", laid_kilovar_carrier_turns)] }
def CarrierPilotSaid : Prop := carrierPilotRow.holds Tryz.pinned (OpenSpec.ofChange carrierPilotSpec)

/-- ITS FALSE NEIGHBOUR: 'it returns false'. Refute it at one input. -/
def carrierPilotWrong : ChangeSpec := { name := "carrierPilot", fn := fun _ => fun
  | [d1, d2] => { results := [.lit (.bool false)], args := [d1, d2] }
  | _ => none }
def CarrierPilotWrongFalsely : Prop := carrierPilotRow.holds Tryz.pinned (OpenSpec.ofChange carrierPilotWrong)

/-- 'kilovarlaw01.CarrierBack': WHATEVER THE INPUT: true; the input reads as it did. -/
def carrierBackSpec : ChangeSpec := { name := "carrierBack", fn := fun _ => fun
  | [d1, d2, d3] => { results := [.lit (.bool true)], args := [d1, d2, d3] }
  | _ => none }
def carrierBackRow : OpenClaim := { program := "ytbmcfhkedgpldaagreatdoor", sum := "e51ca42ed3c7a66527e1cd47a1016b41ca409893dc987f575a4f9ebae5120b32", func := "kilovar/kilovarlaw01.CarrierBack", spec := "carrierBack", inPlace := ["math.Float64bits", "math.Float64frombits", "math.archTrunc", "internal/abi.NoEscape", "math.Float32bits", "internal/bytealg.CountString", "internal/bytealg.IndexByteString", "internal/bytealg.IndexString", "math.Float32frombits"], unfollowed := true, recurses := true, named := ["kilovar/carrier.turns", "kilovar/carrier.pairs", "internal/strconv.uint64pow10", "math/bits.deBruijn32tab", "math/bits.deBruijn64tab", "unicode/utf8.first", "unicode/utf8.acceptRanges", "internal/bytealg.MaxLen", "strconv.ErrSyntax", "strconv.ErrRange"], apart := false, laid := [("math/bits.deBruijn32tab", laid_math_bits_deBruijn32tab), ("math/bits.deBruijn64tab", laid_math_bits_deBruijn64tab), ("internal/strconv.uint64pow10", laid_internal_strconv_uint64pow10), ("unicode/utf8.acceptRanges", laid_unicode_utf8_acceptRanges), ("strconv.ErrRange", laid_strconv_ErrRange), ("strconv.ErrSyntax", laid_strconv_ErrSyntax), ("kilovar/carrier.pairs", laid_kilovar_carrier_pairs), ("kilovar/carrier.turns", laid_kilovar_carrier_turns), ("unicode/utf8.first", laid_unicode_utf8_first)] }
def CarrierBackSaid : Prop := carrierBackRow.holds Tryz.pinned (OpenSpec.ofChange carrierBackSpec)

/-- ITS FALSE NEIGHBOUR: 'it returns false'. Refute it at one input. -/
def carrierBackWrong : ChangeSpec := { name := "carrierBack", fn := fun _ => fun
  | [d1, d2, d3] => { results := [.lit (.bool false)], args := [d1, d2, d3] }
  | _ => none }
def CarrierBackWrongFalsely : Prop := carrierBackRow.holds Tryz.pinned (OpenSpec.ofChange carrierBackWrong)

/- THE SECOND FORM. 'bulk': how many values and letters a reading holds, each counted each time it is reached (what is shared counts as often as it is met; a slice's spare places count too). A statement '..UptoSaid' is the law's where the arguments, and the package variables that the reading takes, are together of bulk at most 1048576: NARROWER than '..Said'. Prove '..Said' where nothing that the law and all that it calls make is longer than what came in: it says more and counts as full. Else prove '..UptoSaid'. A law counts once. -/
mutual
def uptoBulk {H : Type} : DataW H → Nat
  | .lit (.string bytes) => bytes.length + 1
  | .lit _ => 1
  | .nil => 1
  | .ptr d => uptoBulk d + 1
  | .slice elems spare => uptoBulkAll elems + uptoBulkAll spare + 1
  | .agg parts => uptoBulkAll parts + 1
  | .iface _ d => uptoBulk d + 1
  | .map entries => uptoBulkEntries entries + 1
  | .held _ => 1
def uptoBulkAll {H : Type} : List (DataW H) → Nat
  | [] => 0
  | d :: r => uptoBulk d + uptoBulkAll r
def uptoBulkEntries {H : Type} : List (Lit × DataW H) → Nat
  | [] => 0
  | x :: r => uptoBulkEntry x + uptoBulkEntries r
def uptoBulkEntry {H : Type} : Lit × DataW H → Nat
  | (.string bytes, d) => bytes.length + uptoBulk d + 1
  | (_, d) => uptoBulk d + 1
 end
def uptoSmall : (H : Type) → List (DataW H) → Bool := fun _ ds => decide (uptoBulkAll ds ≤ 1048576)
def OpenSpec.upto (s : _root_.Go.ChangeSpec) : _root_.Go.OpenSpec := { _root_.Go.OpenSpec.ofChange s with cond := some uptoSmall }

/-- 'kilovarlaw01.CarrierNames', WHERE WHAT IT READS IS OF BULK AT MOST 1048576: true; the input reads as it did. -/
def carrierNamesUptoRow : OpenClaim := { program := "ytbmcfhkedgpldaagreatdoor", sum := "e51ca42ed3c7a66527e1cd47a1016b41ca409893dc987f575a4f9ebae5120b32", func := "kilovar/kilovarlaw01.CarrierNames", spec := "carrierNames", inPlace := ["math.Float64bits", "math.Float64frombits", "math.archTrunc", "internal/abi.NoEscape", "math.Float32bits"], unfollowed := true, recurses := true, named := ["kilovar/carrier.turns", "kilovar/carrier.pairs", "internal/strconv.uint64pow10", "math/bits.deBruijn32tab", "math/bits.deBruijn64tab"], apart := false, laid := [("math/bits.deBruijn32tab", laid_math_bits_deBruijn32tab), ("math/bits.deBruijn64tab", laid_math_bits_deBruijn64tab), ("internal/strconv.uint64pow10", laid_internal_strconv_uint64pow10), ("kilovar/carrier.pairs", laid_kilovar_carrier_pairs), ("kilovar/carrier.turns", laid_kilovar_carrier_turns)], narrowed := true }
def CarrierNamesUptoSaid : Prop := carrierNamesUptoRow.holds Tryz.pinned (OpenSpec.upto carrierNamesSpec)

/-- 'kilovarlaw01.CarrierPowers', WHERE WHAT IT READS IS OF BULK AT MOST 1048576: true; the input reads as it did. -/
def carrierPowersUptoRow : OpenClaim := { program := "ytbmcfhkedgpldaagreatdoor", sum := "e51ca42ed3c7a66527e1cd47a1016b41ca409893dc987f575a4f9ebae5120b32", func := "kilovar/kilovarlaw01.CarrierPowers", spec := "carrierPowers", inPlace := ["math.Float64bits", "math.Float64frombits", "math.archTrunc", "internal/abi.NoEscape", "math.Float32bits"], unfollowed := true, recurses := true, named := ["kilovar/carrier.turns", "kilovar/carrier.pairs", "internal/strconv.uint64pow10", "math/bits.deBruijn32tab", "math/bits.deBruijn64tab"], apart := false, laid := [("math/bits.deBruijn32tab", laid_math_bits_deBruijn32tab), ("math/bits.deBruijn64tab", laid_math_bits_deBruijn64tab), ("internal/strconv.uint64pow10", laid_internal_strconv_uint64pow10), ("kilovar/carrier.pairs", laid_kilovar_carrier_pairs), ("kilovar/carrier.turns", laid_kilovar_carrier_turns)], narrowed := true }
def CarrierPowersUptoSaid : Prop := carrierPowersUptoRow.holds Tryz.pinned (OpenSpec.upto carrierPowersSpec)

/-- 'kilovarlaw01.CarrierWaves', WHERE WHAT IT READS IS OF BULK AT MOST 1048576: true; the input reads as it did. -/
def carrierWavesUptoRow : OpenClaim := { program := "ytbmcfhkedgpldaagreatdoor", sum := "e51ca42ed3c7a66527e1cd47a1016b41ca409893dc987f575a4f9ebae5120b32", func := "kilovar/kilovarlaw01.CarrierWaves", spec := "carrierWaves", inPlace := ["math.Float64bits", "math.Float64frombits", "math.archTrunc", "internal/abi.NoEscape", "math.Float32bits"], unfollowed := true, recurses := true, named := ["kilovar/carrier.turns", "kilovar/carrier.pairs", "internal/strconv.uint64pow10", "math/bits.deBruijn32tab", "math/bits.deBruijn64tab"], apart := false, laid := [("math/bits.deBruijn32tab", laid_math_bits_deBruijn32tab), ("math/bits.deBruijn64tab", laid_math_bits_deBruijn64tab), ("internal/strconv.uint64pow10", laid_internal_strconv_uint64pow10), ("kilovar/carrier.pairs", laid_kilovar_carrier_pairs), ("kilovar/carrier.turns", laid_kilovar_carrier_turns)], narrowed := true }
def CarrierWavesUptoSaid : Prop := carrierWavesUptoRow.holds Tryz.pinned (OpenSpec.upto carrierWavesSpec)

/-- 'kilovarlaw01.CarrierModulates', WHERE WHAT IT READS IS OF BULK AT MOST 1048576: true; the input reads as it did. -/
def carrierModulatesUptoRow : OpenClaim := { program := "ytbmcfhkedgpldaagreatdoor", sum := "e51ca42ed3c7a66527e1cd47a1016b41ca409893dc987f575a4f9ebae5120b32", func := "kilovar/kilovarlaw01.CarrierModulates", spec := "carrierModulates", inPlace := ["math.Float64bits", "math.Float64frombits", "math.archTrunc", "internal/abi.NoEscape", "math.Float32bits"], unfollowed := true, recurses := true, named := ["kilovar/carrier.turns", "kilovar/carrier.pairs", "internal/strconv.uint64pow10", "math/bits.deBruijn32tab", "math/bits.deBruijn64tab"], apart := false, laid := [("math/bits.deBruijn32tab", laid_math_bits_deBruijn32tab), ("math/bits.deBruijn64tab", laid_math_bits_deBruijn64tab), ("internal/strconv.uint64pow10", laid_internal_strconv_uint64pow10), ("kilovar/carrier.pairs", laid_kilovar_carrier_pairs), ("kilovar/carrier.turns", laid_kilovar_carrier_turns)], narrowed := true }
def CarrierModulatesUptoSaid : Prop := carrierModulatesUptoRow.holds Tryz.pinned (OpenSpec.upto carrierModulatesSpec)

/-- 'kilovarlaw01.CarrierFinds', WHERE WHAT IT READS IS OF BULK AT MOST 1048576: true; the input reads as it did. -/
def carrierFindsUptoRow : OpenClaim := { program := "ytbmcfhkedgpldaagreatdoor", sum := "e51ca42ed3c7a66527e1cd47a1016b41ca409893dc987f575a4f9ebae5120b32", func := "kilovar/kilovarlaw01.CarrierFinds", spec := "carrierFinds", inPlace := ["math.Float64bits", "math.Float64frombits", "math.archTrunc", "internal/abi.NoEscape", "math.Float32bits"], unfollowed := true, recurses := true, named := ["kilovar/carrier.turns", "kilovar/carrier.pairs", "internal/strconv.uint64pow10", "math/bits.deBruijn32tab", "math/bits.deBruijn64tab"], apart := false, laid := [("math/bits.deBruijn32tab", laid_math_bits_deBruijn32tab), ("math/bits.deBruijn64tab", laid_math_bits_deBruijn64tab), ("internal/strconv.uint64pow10", laid_internal_strconv_uint64pow10), ("kilovar/carrier.pairs", laid_kilovar_carrier_pairs), ("kilovar/carrier.turns", laid_kilovar_carrier_turns)], narrowed := true }
def CarrierFindsUptoSaid : Prop := carrierFindsUptoRow.holds Tryz.pinned (OpenSpec.upto carrierFindsSpec)

/-- 'kilovarlaw01.CarrierStreams', WHERE WHAT IT READS IS OF BULK AT MOST 1048576: true; the input reads as it did. -/
def carrierStreamsUptoRow : OpenClaim := { program := "ytbmcfhkedgpldaagreatdoor", sum := "e51ca42ed3c7a66527e1cd47a1016b41ca409893dc987f575a4f9ebae5120b32", func := "kilovar/kilovarlaw01.CarrierStreams", spec := "carrierStreams", inPlace := ["math.Float64bits", "math.Float64frombits", "math.archTrunc", "internal/abi.NoEscape", "math.Float32bits", "math.Float32frombits"], unfollowed := true, recurses := true, named := ["kilovar/carrier.turns", "kilovar/carrier.pairs", "internal/strconv.uint64pow10", "math/bits.deBruijn32tab", "math/bits.deBruijn64tab"], apart := false, laid := [("math/bits.deBruijn32tab", laid_math_bits_deBruijn32tab), ("math/bits.deBruijn64tab", laid_math_bits_deBruijn64tab), ("internal/strconv.uint64pow10", laid_internal_strconv_uint64pow10), ("kilovar/carrier.pairs", laid_kilovar_carrier_pairs), ("kilovar/carrier.turns", laid_kilovar_carrier_turns)], narrowed := true }
def CarrierStreamsUptoSaid : Prop := carrierStreamsUptoRow.holds Tryz.pinned (OpenSpec.upto carrierStreamsSpec)

/-- 'kilovarlaw01.CarrierStrings', WHERE WHAT IT READS IS OF BULK AT MOST 1048576: true; the input reads as it did. -/
def carrierStringsUptoRow : OpenClaim := { program := "ytbmcfhkedgpldaagreatdoor", sum := "e51ca42ed3c7a66527e1cd47a1016b41ca409893dc987f575a4f9ebae5120b32", func := "kilovar/kilovarlaw01.CarrierStrings", spec := "carrierStrings", inPlace := ["math.Float64bits", "math.Float64frombits", "math.archTrunc", "internal/abi.NoEscape", "math.Float32bits", "internal/bytealg.CountString", "internal/bytealg.IndexByteString", "internal/bytealg.IndexString"], unfollowed := true, recurses := true, named := ["kilovar/carrier.turns", "kilovar/carrier.pairs", "internal/strconv.uint64pow10", "math/bits.deBruijn32tab", "math/bits.deBruijn64tab", "unicode/utf8.first", "unicode/utf8.acceptRanges", "internal/bytealg.MaxLen", "strconv.ErrSyntax", "strconv.ErrRange"], apart := false, laid := [("math/bits.deBruijn32tab", laid_math_bits_deBruijn32tab), ("math/bits.deBruijn64tab", laid_math_bits_deBruijn64tab), ("internal/strconv.uint64pow10", laid_internal_strconv_uint64pow10), ("unicode/utf8.acceptRanges", laid_unicode_utf8_acceptRanges), ("strconv.ErrRange", laid_strconv_ErrRange), ("strconv.ErrSyntax", laid_strconv_ErrSyntax), ("kilovar/carrier.pairs", laid_kilovar_carrier_pairs), ("kilovar/carrier.turns", laid_kilovar_carrier_turns), ("unicode/utf8.first", laid_unicode_utf8_first)], narrowed := true }
def CarrierStringsUptoSaid : Prop := carrierStringsUptoRow.holds Tryz.pinned (OpenSpec.upto carrierStringsSpec)

/-- 'kilovarlaw01.CarrierClean', WHERE WHAT IT READS IS OF BULK AT MOST 1048576: true; the input reads as it did. -/
def carrierCleanUptoRow : OpenClaim := { program := "ytbmcfhkedgpldaagreatdoor", sum := "e51ca42ed3c7a66527e1cd47a1016b41ca409893dc987f575a4f9ebae5120b32", func := "kilovar/kilovarlaw01.CarrierClean", spec := "carrierClean", inPlace := ["math.Float64bits", "math.Float64frombits", "math.archTrunc", "internal/abi.NoEscape", "math.Float32bits"], unfollowed := true, recurses := true, named := ["kilovar/carrier.turns", "kilovar/carrier.pairs", "internal/strconv.uint64pow10", "math/bits.deBruijn32tab", "math/bits.deBruijn64tab"], apart := false, laid := [("math/bits.deBruijn32tab", laid_math_bits_deBruijn32tab), ("math/bits.deBruijn64tab", laid_math_bits_deBruijn64tab), ("internal/strconv.uint64pow10", laid_internal_strconv_uint64pow10), ("kilovar/carrier.pairs", laid_kilovar_carrier_pairs), ("kilovar/carrier.turns", laid_kilovar_carrier_turns)], narrowed := true }
def CarrierCleanUptoSaid : Prop := carrierCleanUptoRow.holds Tryz.pinned (OpenSpec.upto carrierCleanSpec)

/-- 'kilovarlaw01.CarrierPilot', WHERE WHAT IT READS IS OF BULK AT MOST 1048576: true; the input reads as it did. -/
def carrierPilotUptoRow : OpenClaim := { program := "ytbmcfhkedgpldaagreatdoor", sum := "e51ca42ed3c7a66527e1cd47a1016b41ca409893dc987f575a4f9ebae5120b32", func := "kilovar/kilovarlaw01.CarrierPilot", spec := "carrierPilot", inPlace := ["math.Float64bits", "math.Float64frombits", "math.archTrunc", "internal/abi.NoEscape", "math.Float32bits"], unfollowed := true, recurses := true, named := ["kilovar/carrier.turns", "kilovar/carrier.pairs", "internal/strconv.uint64pow10", "math/bits.deBruijn32tab", "math/bits.deBruijn64tab"], apart := false, laid := [("math/bits.deBruijn32tab", laid_math_bits_deBruijn32tab), ("math/bits.deBruijn64tab", laid_math_bits_deBruijn64tab), ("internal/strconv.uint64pow10", laid_internal_strconv_uint64pow10), ("kilovar/carrier.pairs", laid_kilovar_carrier_pairs), ("kilovar/carrier.turns", laid_kilovar_carrier_turns)], narrowed := true }
def CarrierPilotUptoSaid : Prop := carrierPilotUptoRow.holds Tryz.pinned (OpenSpec.upto carrierPilotSpec)

/-- 'kilovarlaw01.CarrierBack', WHERE WHAT IT READS IS OF BULK AT MOST 1048576: true; the input reads as it did. -/
def carrierBackUptoRow : OpenClaim := { program := "ytbmcfhkedgpldaagreatdoor", sum := "e51ca42ed3c7a66527e1cd47a1016b41ca409893dc987f575a4f9ebae5120b32", func := "kilovar/kilovarlaw01.CarrierBack", spec := "carrierBack", inPlace := ["math.Float64bits", "math.Float64frombits", "math.archTrunc", "internal/abi.NoEscape", "math.Float32bits", "internal/bytealg.CountString", "internal/bytealg.IndexByteString", "internal/bytealg.IndexString", "math.Float32frombits"], unfollowed := true, recurses := true, named := ["kilovar/carrier.turns", "kilovar/carrier.pairs", "internal/strconv.uint64pow10", "math/bits.deBruijn32tab", "math/bits.deBruijn64tab", "unicode/utf8.first", "unicode/utf8.acceptRanges", "internal/bytealg.MaxLen", "strconv.ErrSyntax", "strconv.ErrRange"], apart := false, laid := [("math/bits.deBruijn32tab", laid_math_bits_deBruijn32tab), ("math/bits.deBruijn64tab", laid_math_bits_deBruijn64tab), ("internal/strconv.uint64pow10", laid_internal_strconv_uint64pow10), ("unicode/utf8.acceptRanges", laid_unicode_utf8_acceptRanges), ("strconv.ErrRange", laid_strconv_ErrRange), ("strconv.ErrSyntax", laid_strconv_ErrSyntax), ("kilovar/carrier.pairs", laid_kilovar_carrier_pairs), ("kilovar/carrier.turns", laid_kilovar_carrier_turns), ("unicode/utf8.first", laid_unicode_utf8_first)], narrowed := true }
def CarrierBackUptoSaid : Prop := carrierBackUptoRow.holds Tryz.pinned (OpenSpec.upto carrierBackSpec)

end Rows
end Go.Proofs.YtbmcfhkedgpldaaGreatDoor
