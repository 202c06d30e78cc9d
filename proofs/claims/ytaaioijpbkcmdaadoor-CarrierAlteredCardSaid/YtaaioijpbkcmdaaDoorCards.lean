/-
  DERIVED. GIVEN WITH THE SEED: THE CARDS: each row of YtaaioijpbkcmdaaDoorRows.lean that lists a variable, with what it lists TIED to the program's text (the seventh form; the later family's looks); each row that meets fmt, with fmt's text TOLD by the authors' own Lean function (tested against real Go, not proved from fmt's source: count such statements apart). THE CARD IS WHAT COUNTS. Prove the row's statement (the work); the ties are given (YtaaioijpbkcmdaaDoorTie.lean); close each card by the builder's one call (the guide's Derived/Test/ToyasCard.lean, 'card_holds'). Laid BY PROGRAM, IN A SANDBOX (cutbox-door.mjs). By AI agents, Wed Nov 11 2026. No macro, syntax, notation, axiom, sorry.
-/
import Derived.Test.YtaaioijpbkcmdaaDoorRows
import GoSem.ClaimSeven
namespace Go.Proofs.YtaaioijpbkcmdaaDoor
namespace Rows

/-- THE TIED CARD OF 'kilovarlaw01.CarrierAltered'. -/
def carrierAlteredCard : Claim7 := { stood := { row := carrierAlteredRow, standIns := [], harness := (true, "bfa90ed9ab8bce703d1e5ea44e216b8d4ced1b4103afc9833895a0bbc3a03f41"), looks := false }, kinds := [], alts := [], laidByText := true, laidKinds := [.data, .data, .data, .data, .data], laidTests := true, laidLooks := .later }
def CarrierAlteredCardSaid : Prop := Claim7.holds Tryd.pinned (.plain (OpenSpec.ofChange carrierAlteredSpec)) carrierAlteredCard

/-- THE SECOND FORM's CARD OF 'kilovarlaw01.CarrierAltered'. -/
def carrierAlteredUptoCard : Claim7 := { stood := { row := carrierAlteredUptoRow, standIns := [], harness := (true, "bfa90ed9ab8bce703d1e5ea44e216b8d4ced1b4103afc9833895a0bbc3a03f41"), looks := false }, kinds := [], alts := [], laidByText := true, laidKinds := [.data, .data, .data, .data, .data], laidTests := true, laidLooks := .later }
def CarrierAlteredUptoCardSaid : Prop := Claim7.holds Tryd.pinned (.plain (OpenSpec.upto carrierAlteredSpec)) carrierAlteredUptoCard
end Rows
end Go.Proofs.YtaaioijpbkcmdaaDoor
