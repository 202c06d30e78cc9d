/-
  DERIVED. GIVEN WITH THE SEED: THE CARDS: each row of YtbmcfhkedgpldaaGreatDoorRows.lean that lists a variable, with what it lists TIED to the program's text (the seventh form; the later family's looks); each row that meets fmt, with fmt's text TOLD by the authors' own Lean function (tested against real Go, not proved from fmt's source: count such statements apart). THE CARD IS WHAT COUNTS. Prove the row's statement (the work); the ties are given (YtbmcfhkedgpldaaGreatDoorTie.lean); close each card by the builder's one call (the guide's Derived/Test/ToyasCard.lean, 'card_holds'). Laid BY PROGRAM, IN A SANDBOX (cutbox-door.mjs). By AI agents, Wed Nov 11 2026. No macro, syntax, notation, axiom, sorry.
-/
import Derived.Test.YtbmcfhkedgpldaaGreatDoorRows
import GoSem.ClaimSeven
namespace Go.Proofs.YtbmcfhkedgpldaaGreatDoor
namespace Rows

/-- THE TIED CARD OF 'kilovarlaw01.CarrierNames'. -/
def carrierNamesCard : Claim7 := { stood := { row := carrierNamesRow, standIns := [], harness := (true, "e3c585f0e29b2e081dc4f241a28104fdc5ccbdbfe0bf809c5ac9b34444363138"), looks := true }, kinds := [], alts := [], laidByText := true, laidKinds := [.data, .data, .data, .data, .data], laidTests := true, laidLooks := .later }
def CarrierNamesCardSaid : Prop := Claim7.holds Tryz.pinned (.plain (OpenSpec.ofChange carrierNamesSpec)) carrierNamesCard

/-- THE TIED CARD OF 'kilovarlaw01.CarrierPowers'. -/
def carrierPowersCard : Claim7 := { stood := { row := carrierPowersRow, standIns := [], harness := (true, "e3c585f0e29b2e081dc4f241a28104fdc5ccbdbfe0bf809c5ac9b34444363138"), looks := true }, kinds := [], alts := [], laidByText := true, laidKinds := [.data, .data, .data, .data, .data], laidTests := true, laidLooks := .later }
def CarrierPowersCardSaid : Prop := Claim7.holds Tryz.pinned (.plain (OpenSpec.ofChange carrierPowersSpec)) carrierPowersCard

/-- THE TIED CARD OF 'kilovarlaw01.CarrierWaves'. -/
def carrierWavesCard : Claim7 := { stood := { row := carrierWavesRow, standIns := [], harness := (true, "e3c585f0e29b2e081dc4f241a28104fdc5ccbdbfe0bf809c5ac9b34444363138"), looks := true }, kinds := [], alts := [], laidByText := true, laidKinds := [.data, .data, .data, .data, .data], laidTests := true, laidLooks := .later }
def CarrierWavesCardSaid : Prop := Claim7.holds Tryz.pinned (.plain (OpenSpec.ofChange carrierWavesSpec)) carrierWavesCard

/-- THE TIED CARD OF 'kilovarlaw01.CarrierModulates'. -/
def carrierModulatesCard : Claim7 := { stood := { row := carrierModulatesRow, standIns := [], harness := (true, "e3c585f0e29b2e081dc4f241a28104fdc5ccbdbfe0bf809c5ac9b34444363138"), looks := true }, kinds := [], alts := [], laidByText := true, laidKinds := [.data, .data, .data, .data, .data], laidTests := true, laidLooks := .later }
def CarrierModulatesCardSaid : Prop := Claim7.holds Tryz.pinned (.plain (OpenSpec.ofChange carrierModulatesSpec)) carrierModulatesCard

/-- THE TIED CARD OF 'kilovarlaw01.CarrierFinds'. -/
def carrierFindsCard : Claim7 := { stood := { row := carrierFindsRow, standIns := [], harness := (true, "e3c585f0e29b2e081dc4f241a28104fdc5ccbdbfe0bf809c5ac9b34444363138"), looks := true }, kinds := [], alts := [], laidByText := true, laidKinds := [.data, .data, .data, .data, .data], laidTests := true, laidLooks := .later }
def CarrierFindsCardSaid : Prop := Claim7.holds Tryz.pinned (.plain (OpenSpec.ofChange carrierFindsSpec)) carrierFindsCard

/-- THE TIED CARD OF 'kilovarlaw01.CarrierStreams'. -/
def carrierStreamsCard : Claim7 := { stood := { row := carrierStreamsRow, standIns := [], harness := (true, "e3c585f0e29b2e081dc4f241a28104fdc5ccbdbfe0bf809c5ac9b34444363138"), looks := true }, kinds := [], alts := [], laidByText := true, laidKinds := [.data, .data, .data, .data, .data], laidTests := true, laidLooks := .later }
def CarrierStreamsCardSaid : Prop := Claim7.holds Tryz.pinned (.plain (OpenSpec.ofChange carrierStreamsSpec)) carrierStreamsCard

/-- THE TIED CARD OF 'kilovarlaw01.CarrierStrings'. -/
def carrierStringsCard : Claim7 := { stood := { row := carrierStringsRow, standIns := [], harness := (true, "e3c585f0e29b2e081dc4f241a28104fdc5ccbdbfe0bf809c5ac9b34444363138"), looks := true }, kinds := [], alts := [], laidByText := true, laidKinds := [.data, .data, .data, .data, .sentinel, .sentinel, .data, .data, .pinned], laidTests := true, laidLooks := .later }
def CarrierStringsCardSaid : Prop := Claim7.holds Tryz.pinned (.plain (OpenSpec.ofChange carrierStringsSpec)) carrierStringsCard

/-- THE TIED CARD OF 'kilovarlaw01.CarrierClean'. -/
def carrierCleanCard : Claim7 := { stood := { row := carrierCleanRow, standIns := [], harness := (true, "e3c585f0e29b2e081dc4f241a28104fdc5ccbdbfe0bf809c5ac9b34444363138"), looks := true }, kinds := [], alts := [], laidByText := true, laidKinds := [.data, .data, .data, .data, .data], laidTests := true, laidLooks := .later }
def CarrierCleanCardSaid : Prop := Claim7.holds Tryz.pinned (.plain (OpenSpec.ofChange carrierCleanSpec)) carrierCleanCard

/-- THE TIED CARD OF 'kilovarlaw01.CarrierPilot'. -/
def carrierPilotCard : Claim7 := { stood := { row := carrierPilotRow, standIns := [], harness := (true, "e3c585f0e29b2e081dc4f241a28104fdc5ccbdbfe0bf809c5ac9b34444363138"), looks := true }, kinds := [], alts := [], laidByText := true, laidKinds := [.data, .data, .data, .data, .data], laidTests := true, laidLooks := .later }
def CarrierPilotCardSaid : Prop := Claim7.holds Tryz.pinned (.plain (OpenSpec.ofChange carrierPilotSpec)) carrierPilotCard

/-- THE TIED CARD OF 'kilovarlaw01.CarrierBack'. -/
def carrierBackCard : Claim7 := { stood := { row := carrierBackRow, standIns := [], harness := (true, "e3c585f0e29b2e081dc4f241a28104fdc5ccbdbfe0bf809c5ac9b34444363138"), looks := true }, kinds := [], alts := [], laidByText := true, laidKinds := [.data, .data, .data, .data, .sentinel, .sentinel, .data, .data, .pinned], laidTests := true, laidLooks := .later }
def CarrierBackCardSaid : Prop := Claim7.holds Tryz.pinned (.plain (OpenSpec.ofChange carrierBackSpec)) carrierBackCard

/-- THE SECOND FORM's CARD OF 'kilovarlaw01.CarrierNames'. -/
def carrierNamesUptoCard : Claim7 := { stood := { row := carrierNamesUptoRow, standIns := [], harness := (true, "e3c585f0e29b2e081dc4f241a28104fdc5ccbdbfe0bf809c5ac9b34444363138"), looks := true }, kinds := [], alts := [], laidByText := true, laidKinds := [.data, .data, .data, .data, .data], laidTests := true, laidLooks := .later }
def CarrierNamesUptoCardSaid : Prop := Claim7.holds Tryz.pinned (.plain (OpenSpec.upto carrierNamesSpec)) carrierNamesUptoCard

/-- THE SECOND FORM's CARD OF 'kilovarlaw01.CarrierPowers'. -/
def carrierPowersUptoCard : Claim7 := { stood := { row := carrierPowersUptoRow, standIns := [], harness := (true, "e3c585f0e29b2e081dc4f241a28104fdc5ccbdbfe0bf809c5ac9b34444363138"), looks := true }, kinds := [], alts := [], laidByText := true, laidKinds := [.data, .data, .data, .data, .data], laidTests := true, laidLooks := .later }
def CarrierPowersUptoCardSaid : Prop := Claim7.holds Tryz.pinned (.plain (OpenSpec.upto carrierPowersSpec)) carrierPowersUptoCard

/-- THE SECOND FORM's CARD OF 'kilovarlaw01.CarrierWaves'. -/
def carrierWavesUptoCard : Claim7 := { stood := { row := carrierWavesUptoRow, standIns := [], harness := (true, "e3c585f0e29b2e081dc4f241a28104fdc5ccbdbfe0bf809c5ac9b34444363138"), looks := true }, kinds := [], alts := [], laidByText := true, laidKinds := [.data, .data, .data, .data, .data], laidTests := true, laidLooks := .later }
def CarrierWavesUptoCardSaid : Prop := Claim7.holds Tryz.pinned (.plain (OpenSpec.upto carrierWavesSpec)) carrierWavesUptoCard

/-- THE SECOND FORM's CARD OF 'kilovarlaw01.CarrierModulates'. -/
def carrierModulatesUptoCard : Claim7 := { stood := { row := carrierModulatesUptoRow, standIns := [], harness := (true, "e3c585f0e29b2e081dc4f241a28104fdc5ccbdbfe0bf809c5ac9b34444363138"), looks := true }, kinds := [], alts := [], laidByText := true, laidKinds := [.data, .data, .data, .data, .data], laidTests := true, laidLooks := .later }
def CarrierModulatesUptoCardSaid : Prop := Claim7.holds Tryz.pinned (.plain (OpenSpec.upto carrierModulatesSpec)) carrierModulatesUptoCard

/-- THE SECOND FORM's CARD OF 'kilovarlaw01.CarrierFinds'. -/
def carrierFindsUptoCard : Claim7 := { stood := { row := carrierFindsUptoRow, standIns := [], harness := (true, "e3c585f0e29b2e081dc4f241a28104fdc5ccbdbfe0bf809c5ac9b34444363138"), looks := true }, kinds := [], alts := [], laidByText := true, laidKinds := [.data, .data, .data, .data, .data], laidTests := true, laidLooks := .later }
def CarrierFindsUptoCardSaid : Prop := Claim7.holds Tryz.pinned (.plain (OpenSpec.upto carrierFindsSpec)) carrierFindsUptoCard

/-- THE SECOND FORM's CARD OF 'kilovarlaw01.CarrierStreams'. -/
def carrierStreamsUptoCard : Claim7 := { stood := { row := carrierStreamsUptoRow, standIns := [], harness := (true, "e3c585f0e29b2e081dc4f241a28104fdc5ccbdbfe0bf809c5ac9b34444363138"), looks := true }, kinds := [], alts := [], laidByText := true, laidKinds := [.data, .data, .data, .data, .data], laidTests := true, laidLooks := .later }
def CarrierStreamsUptoCardSaid : Prop := Claim7.holds Tryz.pinned (.plain (OpenSpec.upto carrierStreamsSpec)) carrierStreamsUptoCard

/-- THE SECOND FORM's CARD OF 'kilovarlaw01.CarrierStrings'. -/
def carrierStringsUptoCard : Claim7 := { stood := { row := carrierStringsUptoRow, standIns := [], harness := (true, "e3c585f0e29b2e081dc4f241a28104fdc5ccbdbfe0bf809c5ac9b34444363138"), looks := true }, kinds := [], alts := [], laidByText := true, laidKinds := [.data, .data, .data, .data, .sentinel, .sentinel, .data, .data, .pinned], laidTests := true, laidLooks := .later }
def CarrierStringsUptoCardSaid : Prop := Claim7.holds Tryz.pinned (.plain (OpenSpec.upto carrierStringsSpec)) carrierStringsUptoCard

/-- THE SECOND FORM's CARD OF 'kilovarlaw01.CarrierClean'. -/
def carrierCleanUptoCard : Claim7 := { stood := { row := carrierCleanUptoRow, standIns := [], harness := (true, "e3c585f0e29b2e081dc4f241a28104fdc5ccbdbfe0bf809c5ac9b34444363138"), looks := true }, kinds := [], alts := [], laidByText := true, laidKinds := [.data, .data, .data, .data, .data], laidTests := true, laidLooks := .later }
def CarrierCleanUptoCardSaid : Prop := Claim7.holds Tryz.pinned (.plain (OpenSpec.upto carrierCleanSpec)) carrierCleanUptoCard

/-- THE SECOND FORM's CARD OF 'kilovarlaw01.CarrierPilot'. -/
def carrierPilotUptoCard : Claim7 := { stood := { row := carrierPilotUptoRow, standIns := [], harness := (true, "e3c585f0e29b2e081dc4f241a28104fdc5ccbdbfe0bf809c5ac9b34444363138"), looks := true }, kinds := [], alts := [], laidByText := true, laidKinds := [.data, .data, .data, .data, .data], laidTests := true, laidLooks := .later }
def CarrierPilotUptoCardSaid : Prop := Claim7.holds Tryz.pinned (.plain (OpenSpec.upto carrierPilotSpec)) carrierPilotUptoCard

/-- THE SECOND FORM's CARD OF 'kilovarlaw01.CarrierBack'. -/
def carrierBackUptoCard : Claim7 := { stood := { row := carrierBackUptoRow, standIns := [], harness := (true, "e3c585f0e29b2e081dc4f241a28104fdc5ccbdbfe0bf809c5ac9b34444363138"), looks := true }, kinds := [], alts := [], laidByText := true, laidKinds := [.data, .data, .data, .data, .sentinel, .sentinel, .data, .data, .pinned], laidTests := true, laidLooks := .later }
def CarrierBackUptoCardSaid : Prop := Claim7.holds Tryz.pinned (.plain (OpenSpec.upto carrierBackSpec)) carrierBackUptoCard
end Rows
end Go.Proofs.YtbmcfhkedgpldaaGreatDoor
