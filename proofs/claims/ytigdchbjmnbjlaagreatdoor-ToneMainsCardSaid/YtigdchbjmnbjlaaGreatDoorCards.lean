/-
  DERIVED. GIVEN WITH THE SEED: THE CARDS: each row of YtigdchbjmnbjlaaGreatDoorRows.lean that lists a variable, with what it lists TIED to the program's text (the seventh form; the later family's looks); each row that meets fmt, with fmt's text TOLD by the authors' own Lean function (tested against real Go, not proved from fmt's source: count such statements apart). THE CARD IS WHAT COUNTS. Prove the row's statement (the work); the ties are given (YtigdchbjmnbjlaaGreatDoorTie.lean); close each card by the builder's one call (the guide's Derived/Test/ToyasCard.lean, 'card_holds'). Laid BY PROGRAM, IN A SANDBOX (cutbox-door.mjs). By AI agents, Wed Nov 11 2026. No macro, syntax, notation, axiom, sorry.
-/
import Derived.Test.YtigdchbjmnbjlaaGreatDoorRows
import GoSem.ClaimSeven
namespace Go.Proofs.YtigdchbjmnbjlaaGreatDoor
namespace Rows

/-- THE TIED CARD OF 'kilovarlaw02.ToneMains'. -/
def toneMainsCard : Claim7 := { stood := { row := toneMainsRow, standIns := [], harness := (true, "4f7794d064ca170373b162174e095d50edf3fcf7dde4737158fe8090640449f0"), looks := false }, kinds := [], alts := [], laidByText := true, laidKinds := [.data, .data, .data, .data], laidTests := true, laidLooks := .later }
def ToneMainsCardSaid : Prop := Claim7.holds Tryz.pinned (.plain (OpenSpec.ofChange toneMainsSpec)) toneMainsCard

/-- THE TIED CARD OF 'kilovarlaw02.ToneGains'. -/
def toneGainsCard : Claim7 := { stood := { row := toneGainsRow, standIns := [], harness := (true, "4f7794d064ca170373b162174e095d50edf3fcf7dde4737158fe8090640449f0"), looks := false }, kinds := [], alts := [], laidByText := true, laidKinds := [.data, .data, .data, .data], laidTests := true, laidLooks := .later }
def ToneGainsCardSaid : Prop := Claim7.holds Tryz.pinned (.plain (OpenSpec.ofChange toneGainsSpec)) toneGainsCard

/-- THE TIED CARD OF 'kilovarlaw02.ToneRanks'. -/
def toneRanksCard : Claim7 := { stood := { row := toneRanksRow, standIns := [], harness := (true, "4f7794d064ca170373b162174e095d50edf3fcf7dde4737158fe8090640449f0"), looks := false }, kinds := [], alts := [], laidByText := true, laidKinds := [.data, .data, .data, .data], laidTests := true, laidLooks := .later }
def ToneRanksCardSaid : Prop := Claim7.holds Tryz.pinned (.plain (OpenSpec.ofChange toneRanksSpec)) toneRanksCard

/-- THE TIED CARD OF 'kilovarlaw02.ToneMaps'. -/
def toneMapsCard : Claim7 := { stood := { row := toneMapsRow, standIns := [], harness := (true, "4f7794d064ca170373b162174e095d50edf3fcf7dde4737158fe8090640449f0"), looks := false }, kinds := [], alts := [], laidByText := true, laidKinds := [.data, .data, .data, .data], laidTests := true, laidLooks := .later }
def ToneMapsCardSaid : Prop := Claim7.holds Tryz.pinned (.plain (OpenSpec.ofChange toneMapsSpec)) toneMapsCard

/-- THE TIED CARD OF 'kilovarlaw02.ToneWays'. -/
def toneWaysCard : Claim7 := { stood := { row := toneWaysRow, standIns := [], harness := (true, "4f7794d064ca170373b162174e095d50edf3fcf7dde4737158fe8090640449f0"), looks := false }, kinds := [], alts := [], laidByText := true, laidKinds := [.data, .data, .data, .data], laidTests := true, laidLooks := .later }
def ToneWaysCardSaid : Prop := Claim7.holds Tryz.pinned (.plain (OpenSpec.ofChange toneWaysSpec)) toneWaysCard

/-- THE TIED CARD OF 'kilovarlaw02.ToneGreatest'. -/
def toneGreatestCard : Claim7 := { stood := { row := toneGreatestRow, standIns := [], harness := (true, "4f7794d064ca170373b162174e095d50edf3fcf7dde4737158fe8090640449f0"), looks := false }, kinds := [], alts := [], laidByText := true, laidKinds := [.data, .data, .data, .data], laidTests := true, laidLooks := .later }
def ToneGreatestCardSaid : Prop := Claim7.holds Tryz.pinned (.plain (OpenSpec.ofChange toneGreatestSpec)) toneGreatestCard

/-- THE TIED CARD OF 'kilovarlaw02.ToneAgrees'. -/
def toneAgreesCard : Claim7 := { stood := { row := toneAgreesRow, standIns := [], harness := (true, "4f7794d064ca170373b162174e095d50edf3fcf7dde4737158fe8090640449f0"), looks := false }, kinds := [], alts := [], laidByText := true, laidKinds := [.data, .data, .data, .data], laidTests := true, laidLooks := .later }
def ToneAgreesCardSaid : Prop := Claim7.holds Tryz.pinned (.plain (OpenSpec.ofChange toneAgreesSpec)) toneAgreesCard

/-- THE SECOND FORM's CARD OF 'kilovarlaw02.ToneMains'. -/
def toneMainsUptoCard : Claim7 := { stood := { row := toneMainsUptoRow, standIns := [], harness := (true, "4f7794d064ca170373b162174e095d50edf3fcf7dde4737158fe8090640449f0"), looks := false }, kinds := [], alts := [], laidByText := true, laidKinds := [.data, .data, .data, .data], laidTests := true, laidLooks := .later }
def ToneMainsUptoCardSaid : Prop := Claim7.holds Tryz.pinned (.plain (OpenSpec.upto toneMainsSpec)) toneMainsUptoCard

/-- THE SECOND FORM's CARD OF 'kilovarlaw02.ToneGains'. -/
def toneGainsUptoCard : Claim7 := { stood := { row := toneGainsUptoRow, standIns := [], harness := (true, "4f7794d064ca170373b162174e095d50edf3fcf7dde4737158fe8090640449f0"), looks := false }, kinds := [], alts := [], laidByText := true, laidKinds := [.data, .data, .data, .data], laidTests := true, laidLooks := .later }
def ToneGainsUptoCardSaid : Prop := Claim7.holds Tryz.pinned (.plain (OpenSpec.upto toneGainsSpec)) toneGainsUptoCard

/-- THE SECOND FORM's CARD OF 'kilovarlaw02.ToneRanks'. -/
def toneRanksUptoCard : Claim7 := { stood := { row := toneRanksUptoRow, standIns := [], harness := (true, "4f7794d064ca170373b162174e095d50edf3fcf7dde4737158fe8090640449f0"), looks := false }, kinds := [], alts := [], laidByText := true, laidKinds := [.data, .data, .data, .data], laidTests := true, laidLooks := .later }
def ToneRanksUptoCardSaid : Prop := Claim7.holds Tryz.pinned (.plain (OpenSpec.upto toneRanksSpec)) toneRanksUptoCard

/-- THE SECOND FORM's CARD OF 'kilovarlaw02.ToneMaps'. -/
def toneMapsUptoCard : Claim7 := { stood := { row := toneMapsUptoRow, standIns := [], harness := (true, "4f7794d064ca170373b162174e095d50edf3fcf7dde4737158fe8090640449f0"), looks := false }, kinds := [], alts := [], laidByText := true, laidKinds := [.data, .data, .data, .data], laidTests := true, laidLooks := .later }
def ToneMapsUptoCardSaid : Prop := Claim7.holds Tryz.pinned (.plain (OpenSpec.upto toneMapsSpec)) toneMapsUptoCard

/-- THE SECOND FORM's CARD OF 'kilovarlaw02.ToneWays'. -/
def toneWaysUptoCard : Claim7 := { stood := { row := toneWaysUptoRow, standIns := [], harness := (true, "4f7794d064ca170373b162174e095d50edf3fcf7dde4737158fe8090640449f0"), looks := false }, kinds := [], alts := [], laidByText := true, laidKinds := [.data, .data, .data, .data], laidTests := true, laidLooks := .later }
def ToneWaysUptoCardSaid : Prop := Claim7.holds Tryz.pinned (.plain (OpenSpec.upto toneWaysSpec)) toneWaysUptoCard

/-- THE SECOND FORM's CARD OF 'kilovarlaw02.ToneGreatest'. -/
def toneGreatestUptoCard : Claim7 := { stood := { row := toneGreatestUptoRow, standIns := [], harness := (true, "4f7794d064ca170373b162174e095d50edf3fcf7dde4737158fe8090640449f0"), looks := false }, kinds := [], alts := [], laidByText := true, laidKinds := [.data, .data, .data, .data], laidTests := true, laidLooks := .later }
def ToneGreatestUptoCardSaid : Prop := Claim7.holds Tryz.pinned (.plain (OpenSpec.upto toneGreatestSpec)) toneGreatestUptoCard

/-- THE SECOND FORM's CARD OF 'kilovarlaw02.ToneAgrees'. -/
def toneAgreesUptoCard : Claim7 := { stood := { row := toneAgreesUptoRow, standIns := [], harness := (true, "4f7794d064ca170373b162174e095d50edf3fcf7dde4737158fe8090640449f0"), looks := false }, kinds := [], alts := [], laidByText := true, laidKinds := [.data, .data, .data, .data], laidTests := true, laidLooks := .later }
def ToneAgreesUptoCardSaid : Prop := Claim7.holds Tryz.pinned (.plain (OpenSpec.upto toneAgreesSpec)) toneAgreesUptoCard
end Rows
end Go.Proofs.YtigdchbjmnbjlaaGreatDoor
