/-
  DERIVED. GIVEN WITH THE SEED: THE CARDS: each row of YtkflndifhonbcaaGreatDoorRows.lean that lists a variable, with what it lists TIED to the program's text (the seventh form; the later family's looks); each row that meets fmt, with fmt's text TOLD by the authors' own Lean function (tested against real Go, not proved from fmt's source: count such statements apart). THE CARD IS WHAT COUNTS. Prove the row's statement (the work); the ties are given (YtkflndifhonbcaaGreatDoorTie.lean); close each card by the builder's one call (the guide's Derived/Test/ToyasCard.lean, 'card_holds'). Laid BY PROGRAM, IN A SANDBOX (cutbox-door.mjs). By AI agents, Wed Nov 11 2026. No macro, syntax, notation, axiom, sorry.
-/
import Derived.Test.YtkflndifhonbcaaGreatDoorRows
import GoSem.ClaimSeven
namespace Go.Proofs.YtkflndifhonbcaaGreatDoor
namespace Rows

/-- THE TIED CARD OF 'kilovarlaw06.MeterCounts'. -/
def meterCountsCard : Claim7 := { stood := { row := meterCountsRow, standIns := [], harness := (true, "ba6b0f02f69e147608099ff49d0762e86bc9faeafbd6e1cfaec3f86e10f6beb2"), looks := false }, kinds := [], alts := [], laidByText := true, laidKinds := [.data, .data, .data, .data], laidTests := true, laidLooks := .later }
def MeterCountsCardSaid : Prop := Claim7.holds Tryz.pinned (.plain (OpenSpec.ofChange meterCountsSpec)) meterCountsCard

/-- THE TIED CARD OF 'kilovarlaw06.MeterReadings'. -/
def meterReadingsCard : Claim7 := { stood := { row := meterReadingsRow, standIns := [], harness := (true, "ba6b0f02f69e147608099ff49d0762e86bc9faeafbd6e1cfaec3f86e10f6beb2"), looks := false }, kinds := [], alts := [], laidByText := true, laidKinds := [.data, .data, .data, .data], laidTests := true, laidLooks := .later }
def MeterReadingsCardSaid : Prop := Claim7.holds Tryz.pinned (.plain (OpenSpec.ofChange meterReadingsSpec)) meterReadingsCard

/-- THE TIED CARD OF 'kilovarlaw06.MeterProfiles'. -/
def meterProfilesCard : Claim7 := { stood := { row := meterProfilesRow, standIns := [], harness := (true, "ba6b0f02f69e147608099ff49d0762e86bc9faeafbd6e1cfaec3f86e10f6beb2"), looks := false }, kinds := [], alts := [], laidByText := true, laidKinds := [.data, .data, .data, .data], laidTests := true, laidLooks := .later }
def MeterProfilesCardSaid : Prop := Claim7.holds Tryz.pinned (.plain (OpenSpec.ofChange meterProfilesSpec)) meterProfilesCard

/-- THE TIED CARD OF 'kilovarlaw06.MeterReads'. -/
def meterReadsCard : Claim7 := { stood := { row := meterReadsRow, standIns := [], harness := (true, "ba6b0f02f69e147608099ff49d0762e86bc9faeafbd6e1cfaec3f86e10f6beb2"), looks := false }, kinds := [], alts := [], laidByText := true, laidKinds := [.data, .data, .data, .data], laidTests := true, laidLooks := .later }
def MeterReadsCardSaid : Prop := Claim7.holds Tryz.pinned (.plain (OpenSpec.ofChange meterReadsSpec)) meterReadsCard

/-- THE TIED CARD OF 'kilovarlaw06.MeterBlocks'. -/
def meterBlocksCard : Claim7 := { stood := { row := meterBlocksRow, standIns := [], harness := (true, "ba6b0f02f69e147608099ff49d0762e86bc9faeafbd6e1cfaec3f86e10f6beb2"), looks := false }, kinds := [], alts := [], laidByText := true, laidKinds := [.data, .data, .data, .data], laidTests := true, laidLooks := .later }
def MeterBlocksCardSaid : Prop := Claim7.holds Tryz.pinned (.plain (OpenSpec.ofChange meterBlocksSpec)) meterBlocksCard

/-- THE TIED CARD OF 'kilovarlaw06.MeterClocks'. -/
def meterClocksCard : Claim7 := { stood := { row := meterClocksRow, standIns := [], harness := (true, "ba6b0f02f69e147608099ff49d0762e86bc9faeafbd6e1cfaec3f86e10f6beb2"), looks := false }, kinds := [], alts := [], laidByText := true, laidKinds := [.data, .data, .data, .data], laidTests := true, laidLooks := .later }
def MeterClocksCardSaid : Prop := Claim7.holds Tryz.pinned (.plain (OpenSpec.ofChange meterClocksSpec)) meterClocksCard

/-- THE TIED CARD OF 'kilovarlaw06.MeterIntervals'. -/
def meterIntervalsCard : Claim7 := { stood := { row := meterIntervalsRow, standIns := [], harness := (true, "ba6b0f02f69e147608099ff49d0762e86bc9faeafbd6e1cfaec3f86e10f6beb2"), looks := false }, kinds := [], alts := [], laidByText := true, laidKinds := [.data, .data, .data, .data], laidTests := true, laidLooks := .later }
def MeterIntervalsCardSaid : Prop := Claim7.holds Tryz.pinned (.plain (OpenSpec.ofChange meterIntervalsSpec)) meterIntervalsCard

/-- THE TIED CARD OF 'kilovarlaw06.MeterSplits'. -/
def meterSplitsCard : Claim7 := { stood := { row := meterSplitsRow, standIns := [], harness := (true, "ba6b0f02f69e147608099ff49d0762e86bc9faeafbd6e1cfaec3f86e10f6beb2"), looks := false }, kinds := [], alts := [], laidByText := true, laidKinds := [.data, .data, .data, .data], laidTests := true, laidLooks := .later }
def MeterSplitsCardSaid : Prop := Claim7.holds Tryz.pinned (.plain (OpenSpec.ofChange meterSplitsSpec)) meterSplitsCard

/-- THE TIED CARD OF 'kilovarlaw06.MeterRings'. -/
def meterRingsCard : Claim7 := { stood := { row := meterRingsRow, standIns := [], harness := (true, "ba6b0f02f69e147608099ff49d0762e86bc9faeafbd6e1cfaec3f86e10f6beb2"), looks := false }, kinds := [], alts := [], laidByText := true, laidKinds := [.data, .data, .data, .data], laidTests := true, laidLooks := .later }
def MeterRingsCardSaid : Prop := Claim7.holds Tryz.pinned (.plain (OpenSpec.ofChange meterRingsSpec)) meterRingsCard

/-- THE TIED CARD OF 'kilovarlaw06.MeterSlews'. -/
def meterSlewsCard : Claim7 := { stood := { row := meterSlewsRow, standIns := [], harness := (true, "ba6b0f02f69e147608099ff49d0762e86bc9faeafbd6e1cfaec3f86e10f6beb2"), looks := false }, kinds := [], alts := [], laidByText := true, laidKinds := [.data, .data, .data, .data], laidTests := true, laidLooks := .later }
def MeterSlewsCardSaid : Prop := Claim7.holds Tryz.pinned (.plain (OpenSpec.ofChange meterSlewsSpec)) meterSlewsCard

/-- THE SECOND FORM's CARD OF 'kilovarlaw06.MeterCounts'. -/
def meterCountsUptoCard : Claim7 := { stood := { row := meterCountsUptoRow, standIns := [], harness := (true, "ba6b0f02f69e147608099ff49d0762e86bc9faeafbd6e1cfaec3f86e10f6beb2"), looks := false }, kinds := [], alts := [], laidByText := true, laidKinds := [.data, .data, .data, .data], laidTests := true, laidLooks := .later }
def MeterCountsUptoCardSaid : Prop := Claim7.holds Tryz.pinned (.plain (OpenSpec.upto meterCountsSpec)) meterCountsUptoCard

/-- THE SECOND FORM's CARD OF 'kilovarlaw06.MeterReadings'. -/
def meterReadingsUptoCard : Claim7 := { stood := { row := meterReadingsUptoRow, standIns := [], harness := (true, "ba6b0f02f69e147608099ff49d0762e86bc9faeafbd6e1cfaec3f86e10f6beb2"), looks := false }, kinds := [], alts := [], laidByText := true, laidKinds := [.data, .data, .data, .data], laidTests := true, laidLooks := .later }
def MeterReadingsUptoCardSaid : Prop := Claim7.holds Tryz.pinned (.plain (OpenSpec.upto meterReadingsSpec)) meterReadingsUptoCard

/-- THE SECOND FORM's CARD OF 'kilovarlaw06.MeterProfiles'. -/
def meterProfilesUptoCard : Claim7 := { stood := { row := meterProfilesUptoRow, standIns := [], harness := (true, "ba6b0f02f69e147608099ff49d0762e86bc9faeafbd6e1cfaec3f86e10f6beb2"), looks := false }, kinds := [], alts := [], laidByText := true, laidKinds := [.data, .data, .data, .data], laidTests := true, laidLooks := .later }
def MeterProfilesUptoCardSaid : Prop := Claim7.holds Tryz.pinned (.plain (OpenSpec.upto meterProfilesSpec)) meterProfilesUptoCard

/-- THE SECOND FORM's CARD OF 'kilovarlaw06.MeterReads'. -/
def meterReadsUptoCard : Claim7 := { stood := { row := meterReadsUptoRow, standIns := [], harness := (true, "ba6b0f02f69e147608099ff49d0762e86bc9faeafbd6e1cfaec3f86e10f6beb2"), looks := false }, kinds := [], alts := [], laidByText := true, laidKinds := [.data, .data, .data, .data], laidTests := true, laidLooks := .later }
def MeterReadsUptoCardSaid : Prop := Claim7.holds Tryz.pinned (.plain (OpenSpec.upto meterReadsSpec)) meterReadsUptoCard

/-- THE SECOND FORM's CARD OF 'kilovarlaw06.MeterBlocks'. -/
def meterBlocksUptoCard : Claim7 := { stood := { row := meterBlocksUptoRow, standIns := [], harness := (true, "ba6b0f02f69e147608099ff49d0762e86bc9faeafbd6e1cfaec3f86e10f6beb2"), looks := false }, kinds := [], alts := [], laidByText := true, laidKinds := [.data, .data, .data, .data], laidTests := true, laidLooks := .later }
def MeterBlocksUptoCardSaid : Prop := Claim7.holds Tryz.pinned (.plain (OpenSpec.upto meterBlocksSpec)) meterBlocksUptoCard

/-- THE SECOND FORM's CARD OF 'kilovarlaw06.MeterClocks'. -/
def meterClocksUptoCard : Claim7 := { stood := { row := meterClocksUptoRow, standIns := [], harness := (true, "ba6b0f02f69e147608099ff49d0762e86bc9faeafbd6e1cfaec3f86e10f6beb2"), looks := false }, kinds := [], alts := [], laidByText := true, laidKinds := [.data, .data, .data, .data], laidTests := true, laidLooks := .later }
def MeterClocksUptoCardSaid : Prop := Claim7.holds Tryz.pinned (.plain (OpenSpec.upto meterClocksSpec)) meterClocksUptoCard

/-- THE SECOND FORM's CARD OF 'kilovarlaw06.MeterIntervals'. -/
def meterIntervalsUptoCard : Claim7 := { stood := { row := meterIntervalsUptoRow, standIns := [], harness := (true, "ba6b0f02f69e147608099ff49d0762e86bc9faeafbd6e1cfaec3f86e10f6beb2"), looks := false }, kinds := [], alts := [], laidByText := true, laidKinds := [.data, .data, .data, .data], laidTests := true, laidLooks := .later }
def MeterIntervalsUptoCardSaid : Prop := Claim7.holds Tryz.pinned (.plain (OpenSpec.upto meterIntervalsSpec)) meterIntervalsUptoCard

/-- THE SECOND FORM's CARD OF 'kilovarlaw06.MeterSplits'. -/
def meterSplitsUptoCard : Claim7 := { stood := { row := meterSplitsUptoRow, standIns := [], harness := (true, "ba6b0f02f69e147608099ff49d0762e86bc9faeafbd6e1cfaec3f86e10f6beb2"), looks := false }, kinds := [], alts := [], laidByText := true, laidKinds := [.data, .data, .data, .data], laidTests := true, laidLooks := .later }
def MeterSplitsUptoCardSaid : Prop := Claim7.holds Tryz.pinned (.plain (OpenSpec.upto meterSplitsSpec)) meterSplitsUptoCard

/-- THE SECOND FORM's CARD OF 'kilovarlaw06.MeterRings'. -/
def meterRingsUptoCard : Claim7 := { stood := { row := meterRingsUptoRow, standIns := [], harness := (true, "ba6b0f02f69e147608099ff49d0762e86bc9faeafbd6e1cfaec3f86e10f6beb2"), looks := false }, kinds := [], alts := [], laidByText := true, laidKinds := [.data, .data, .data, .data], laidTests := true, laidLooks := .later }
def MeterRingsUptoCardSaid : Prop := Claim7.holds Tryz.pinned (.plain (OpenSpec.upto meterRingsSpec)) meterRingsUptoCard

/-- THE SECOND FORM's CARD OF 'kilovarlaw06.MeterSlews'. -/
def meterSlewsUptoCard : Claim7 := { stood := { row := meterSlewsUptoRow, standIns := [], harness := (true, "ba6b0f02f69e147608099ff49d0762e86bc9faeafbd6e1cfaec3f86e10f6beb2"), looks := false }, kinds := [], alts := [], laidByText := true, laidKinds := [.data, .data, .data, .data], laidTests := true, laidLooks := .later }
def MeterSlewsUptoCardSaid : Prop := Claim7.holds Tryz.pinned (.plain (OpenSpec.upto meterSlewsSpec)) meterSlewsUptoCard
end Rows
end Go.Proofs.YtkflndifhonbcaaGreatDoor
