/-
  DERIVED. GIVEN WITH THE SEED: THE CARDS: each row of YtneaafigbnjceaaGreatDoorRows.lean that lists a variable, with what it lists TIED to the program's text (the seventh form; the later family's looks); each row that meets fmt, with fmt's text TOLD by the authors' own Lean function (tested against real Go, not proved from fmt's source: count such statements apart). THE CARD IS WHAT COUNTS. Prove the row's statement (the work); the ties are given (YtneaafigbnjceaaGreatDoorTie.lean); close each card by the builder's one call (the guide's Derived/Test/ToyasCard.lean, 'card_holds'). Laid BY PROGRAM, IN A SANDBOX (cutbox-door.mjs). By AI agents, Wed Nov 11 2026. No macro, syntax, notation, axiom, sorry.
-/
import Derived.Test.YtneaafigbnjceaaGreatDoorRows
import GoSem.ClaimSeven
namespace Go.Proofs.YtneaafigbnjceaaGreatDoor
namespace Rows

/-- THE TIED CARD OF 'kilovarlaw08.CreditOnce'. -/
def creditOnceCard : Claim7 := { stood := { row := creditOnceRow, standIns := [], harness := (true, "113c9b19f904030268aeecf0b746b8769d71e970ed2c8c3e722381f94fa138d5"), looks := false }, kinds := [], alts := [], laidByText := true, laidKinds := [.data, .data, .data], laidTests := true, laidLooks := .later }
def CreditOnceCardSaid : Prop := Claim7.holds Tryz.pinned (.plain (OpenSpec.ofChange creditOnceSpec)) creditOnceCard

/-- THE TIED CARD OF 'kilovarlaw08.CreditPhases'. -/
def creditPhasesCard : Claim7 := { stood := { row := creditPhasesRow, standIns := [], harness := (true, "113c9b19f904030268aeecf0b746b8769d71e970ed2c8c3e722381f94fa138d5"), looks := false }, kinds := [], alts := [], laidByText := true, laidKinds := [.data, .data, .data], laidTests := true, laidLooks := .later }
def CreditPhasesCardSaid : Prop := Claim7.holds Tryz.pinned (.plain (OpenSpec.ofChange creditPhasesSpec)) creditPhasesCard

/-- THE TIED CARD OF 'kilovarlaw08.CreditGuarded'. -/
def creditGuardedCard : Claim7 := { stood := { row := creditGuardedRow, standIns := [], harness := (true, "113c9b19f904030268aeecf0b746b8769d71e970ed2c8c3e722381f94fa138d5"), looks := false }, kinds := [], alts := [], laidByText := true, laidKinds := [.data, .data, .data], laidTests := true, laidLooks := .later }
def CreditGuardedCardSaid : Prop := Claim7.holds Tryz.pinned (.plain (OpenSpec.ofChange creditGuardedSpec)) creditGuardedCard

/-- THE SECOND FORM's CARD OF 'kilovarlaw08.CreditOnce'. -/
def creditOnceUptoCard : Claim7 := { stood := { row := creditOnceUptoRow, standIns := [], harness := (true, "113c9b19f904030268aeecf0b746b8769d71e970ed2c8c3e722381f94fa138d5"), looks := false }, kinds := [], alts := [], laidByText := true, laidKinds := [.data, .data, .data], laidTests := true, laidLooks := .later }
def CreditOnceUptoCardSaid : Prop := Claim7.holds Tryz.pinned (.plain (OpenSpec.upto creditOnceSpec)) creditOnceUptoCard

/-- THE SECOND FORM's CARD OF 'kilovarlaw08.CreditPhases'. -/
def creditPhasesUptoCard : Claim7 := { stood := { row := creditPhasesUptoRow, standIns := [], harness := (true, "113c9b19f904030268aeecf0b746b8769d71e970ed2c8c3e722381f94fa138d5"), looks := false }, kinds := [], alts := [], laidByText := true, laidKinds := [.data, .data, .data], laidTests := true, laidLooks := .later }
def CreditPhasesUptoCardSaid : Prop := Claim7.holds Tryz.pinned (.plain (OpenSpec.upto creditPhasesSpec)) creditPhasesUptoCard

/-- THE SECOND FORM's CARD OF 'kilovarlaw08.CreditGuarded'. -/
def creditGuardedUptoCard : Claim7 := { stood := { row := creditGuardedUptoRow, standIns := [], harness := (true, "113c9b19f904030268aeecf0b746b8769d71e970ed2c8c3e722381f94fa138d5"), looks := false }, kinds := [], alts := [], laidByText := true, laidKinds := [.data, .data, .data], laidTests := true, laidLooks := .later }
def CreditGuardedUptoCardSaid : Prop := Claim7.holds Tryz.pinned (.plain (OpenSpec.upto creditGuardedSpec)) creditGuardedUptoCard
end Rows
end Go.Proofs.YtneaafigbnjceaaGreatDoor
