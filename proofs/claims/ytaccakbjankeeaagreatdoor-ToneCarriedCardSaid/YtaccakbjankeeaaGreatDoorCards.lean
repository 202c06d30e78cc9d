/-
  DERIVED. GIVEN WITH THE SEED: THE CARDS: each row of YtaccakbjankeeaaGreatDoorRows.lean that lists a variable, with what it lists TIED to the program's text (the seventh form; the later family's looks); each row that meets fmt, with fmt's text TOLD by the authors' own Lean function (tested against real Go, not proved from fmt's source: count such statements apart). THE CARD IS WHAT COUNTS. Prove the row's statement (the work); the ties are given (YtaccakbjankeeaaGreatDoorTie.lean); close each card by the builder's one call (the guide's Derived/Test/ToyasCard.lean, 'card_holds'). Laid BY PROGRAM, IN A SANDBOX (cutbox-door.mjs). By AI agents, Wed Nov 11 2026. No macro, syntax, notation, axiom, sorry.
-/
import Derived.Test.YtaccakbjankeeaaGreatDoorRows
import GoSem.ClaimSeven
namespace Go.Proofs.YtaccakbjankeeaaGreatDoor
namespace Rows

/-- THE TIED CARD OF 'kilovarlaw02.ToneTones'. -/
def toneTonesCard : Claim7 := { stood := { row := toneTonesRow, standIns := [], harness := (true, "663b8e4ac628b34c1f78df2451d55318fcecf74efdbaa17c12870f06937e2033"), looks := false }, kinds := [], alts := [], laidByText := true, laidKinds := [.data, .data, .data, .data], laidTests := true, laidLooks := .later }
def ToneTonesCardSaid : Prop := Claim7.holds Tryz.pinned (.plain (OpenSpec.ofChange toneTonesSpec)) toneTonesCard

/-- THE TIED CARD OF 'kilovarlaw02.ToneBits'. -/
def toneBitsCard : Claim7 := { stood := { row := toneBitsRow, standIns := [], harness := (true, "663b8e4ac628b34c1f78df2451d55318fcecf74efdbaa17c12870f06937e2033"), looks := false }, kinds := [], alts := [], laidByText := true, laidKinds := [.data, .data, .data, .data], laidTests := true, laidLooks := .later }
def ToneBitsCardSaid : Prop := Claim7.holds Tryz.pinned (.plain (OpenSpec.ofChange toneBitsSpec)) toneBitsCard

/-- THE TIED CARD OF 'kilovarlaw02.ToneVotes'. -/
def toneVotesCard : Claim7 := { stood := { row := toneVotesRow, standIns := [], harness := (true, "663b8e4ac628b34c1f78df2451d55318fcecf74efdbaa17c12870f06937e2033"), looks := false }, kinds := [], alts := [], laidByText := true, laidKinds := [.data, .data, .data, .data], laidTests := true, laidLooks := .later }
def ToneVotesCardSaid : Prop := Claim7.holds Tryz.pinned (.plain (OpenSpec.ofChange toneVotesSpec)) toneVotesCard

/-- THE TIED CARD OF 'kilovarlaw02.ToneSenders'. -/
def toneSendersCard : Claim7 := { stood := { row := toneSendersRow, standIns := [], harness := (true, "663b8e4ac628b34c1f78df2451d55318fcecf74efdbaa17c12870f06937e2033"), looks := false }, kinds := [], alts := [], laidByText := true, laidKinds := [.data, .data, .data, .data], laidTests := true, laidLooks := .later }
def ToneSendersCardSaid : Prop := Claim7.holds Tryz.pinned (.plain (OpenSpec.ofChange toneSendersSpec)) toneSendersCard

/-- THE TIED CARD OF 'kilovarlaw02.ToneReceivers'. -/
def toneReceiversCard : Claim7 := { stood := { row := toneReceiversRow, standIns := [], harness := (true, "663b8e4ac628b34c1f78df2451d55318fcecf74efdbaa17c12870f06937e2033"), looks := false }, kinds := [], alts := [], laidByText := true, laidKinds := [.data, .data, .data, .data], laidTests := true, laidLooks := .later }
def ToneReceiversCardSaid : Prop := Claim7.holds Tryz.pinned (.plain (OpenSpec.ofChange toneReceiversSpec)) toneReceiversCard

/-- THE TIED CARD OF 'kilovarlaw02.ToneCarried'. -/
def toneCarriedCard : Claim7 := { stood := { row := toneCarriedRow, standIns := [], harness := (true, "663b8e4ac628b34c1f78df2451d55318fcecf74efdbaa17c12870f06937e2033"), looks := false }, kinds := [], alts := [], laidByText := true, laidKinds := [.data, .data, .data, .data], laidTests := true, laidLooks := .later }
def ToneCarriedCardSaid : Prop := Claim7.holds Tryz.pinned (.plain (OpenSpec.ofChange toneCarriedSpec)) toneCarriedCard

/-- THE SECOND FORM's CARD OF 'kilovarlaw02.ToneTones'. -/
def toneTonesUptoCard : Claim7 := { stood := { row := toneTonesUptoRow, standIns := [], harness := (true, "663b8e4ac628b34c1f78df2451d55318fcecf74efdbaa17c12870f06937e2033"), looks := false }, kinds := [], alts := [], laidByText := true, laidKinds := [.data, .data, .data, .data], laidTests := true, laidLooks := .later }
def ToneTonesUptoCardSaid : Prop := Claim7.holds Tryz.pinned (.plain (OpenSpec.upto toneTonesSpec)) toneTonesUptoCard

/-- THE SECOND FORM's CARD OF 'kilovarlaw02.ToneBits'. -/
def toneBitsUptoCard : Claim7 := { stood := { row := toneBitsUptoRow, standIns := [], harness := (true, "663b8e4ac628b34c1f78df2451d55318fcecf74efdbaa17c12870f06937e2033"), looks := false }, kinds := [], alts := [], laidByText := true, laidKinds := [.data, .data, .data, .data], laidTests := true, laidLooks := .later }
def ToneBitsUptoCardSaid : Prop := Claim7.holds Tryz.pinned (.plain (OpenSpec.upto toneBitsSpec)) toneBitsUptoCard

/-- THE SECOND FORM's CARD OF 'kilovarlaw02.ToneVotes'. -/
def toneVotesUptoCard : Claim7 := { stood := { row := toneVotesUptoRow, standIns := [], harness := (true, "663b8e4ac628b34c1f78df2451d55318fcecf74efdbaa17c12870f06937e2033"), looks := false }, kinds := [], alts := [], laidByText := true, laidKinds := [.data, .data, .data, .data], laidTests := true, laidLooks := .later }
def ToneVotesUptoCardSaid : Prop := Claim7.holds Tryz.pinned (.plain (OpenSpec.upto toneVotesSpec)) toneVotesUptoCard

/-- THE SECOND FORM's CARD OF 'kilovarlaw02.ToneSenders'. -/
def toneSendersUptoCard : Claim7 := { stood := { row := toneSendersUptoRow, standIns := [], harness := (true, "663b8e4ac628b34c1f78df2451d55318fcecf74efdbaa17c12870f06937e2033"), looks := false }, kinds := [], alts := [], laidByText := true, laidKinds := [.data, .data, .data, .data], laidTests := true, laidLooks := .later }
def ToneSendersUptoCardSaid : Prop := Claim7.holds Tryz.pinned (.plain (OpenSpec.upto toneSendersSpec)) toneSendersUptoCard

/-- THE SECOND FORM's CARD OF 'kilovarlaw02.ToneReceivers'. -/
def toneReceiversUptoCard : Claim7 := { stood := { row := toneReceiversUptoRow, standIns := [], harness := (true, "663b8e4ac628b34c1f78df2451d55318fcecf74efdbaa17c12870f06937e2033"), looks := false }, kinds := [], alts := [], laidByText := true, laidKinds := [.data, .data, .data, .data], laidTests := true, laidLooks := .later }
def ToneReceiversUptoCardSaid : Prop := Claim7.holds Tryz.pinned (.plain (OpenSpec.upto toneReceiversSpec)) toneReceiversUptoCard

/-- THE SECOND FORM's CARD OF 'kilovarlaw02.ToneCarried'. -/
def toneCarriedUptoCard : Claim7 := { stood := { row := toneCarriedUptoRow, standIns := [], harness := (true, "663b8e4ac628b34c1f78df2451d55318fcecf74efdbaa17c12870f06937e2033"), looks := false }, kinds := [], alts := [], laidByText := true, laidKinds := [.data, .data, .data, .data], laidTests := true, laidLooks := .later }
def ToneCarriedUptoCardSaid : Prop := Claim7.holds Tryz.pinned (.plain (OpenSpec.upto toneCarriedSpec)) toneCarriedUptoCard
end Rows
end Go.Proofs.YtaccakbjankeeaaGreatDoor
