/-
  DERIVED. GIVEN WITH THE SEED: THE CARDS: each row of YtmefachijohnhaaGreatDoorRows.lean that lists a variable, with what it lists TIED to the program's text (the seventh form; the later family's looks); each row that meets fmt, with fmt's text TOLD by the authors' own Lean function (tested against real Go, not proved from fmt's source: count such statements apart). THE CARD IS WHAT COUNTS. Prove the row's statement (the work); the ties are given (YtmefachijohnhaaGreatDoorTie.lean); close each card by the builder's one call (the guide's Derived/Test/ToyasCard.lean, 'card_holds'). Laid BY PROGRAM, IN A SANDBOX (cutbox-door.mjs). By AI agents, Wed Nov 11 2026. No macro, syntax, notation, axiom, sorry.
-/
import Derived.Test.YtmefachijohnhaaGreatDoorRows
import GoSem.ClaimSeven
namespace Go.Proofs.YtmefachijohnhaaGreatDoor
namespace Rows

/-- THE TIED CARD OF 'kilovarlaw08.CreditAccounts'. -/
def creditAccountsCard : Claim7 := { stood := { row := creditAccountsRow, standIns := [], harness := (true, "c80a8813e514c5d12da507c29b0292953f349b637aa9c395c831a7c56153b3dc"), looks := false }, kinds := [], alts := [], laidByText := true, laidKinds := [.data, .data, .data], laidTests := true, laidLooks := .later }
def CreditAccountsCardSaid : Prop := Claim7.holds Tryz.pinned (.plain (OpenSpec.ofChange creditAccountsSpec)) creditAccountsCard

/-- THE TIED CARD OF 'kilovarlaw08.CreditTokens'. -/
def creditTokensCard : Claim7 := { stood := { row := creditTokensRow, standIns := [], harness := (true, "c80a8813e514c5d12da507c29b0292953f349b637aa9c395c831a7c56153b3dc"), looks := false }, kinds := [], alts := [], laidByText := true, laidKinds := [.data, .data, .data], laidTests := true, laidLooks := .later }
def CreditTokensCardSaid : Prop := Claim7.holds Tryz.pinned (.plain (OpenSpec.ofChange creditTokensSpec)) creditTokensCard

/-- THE TIED CARD OF 'kilovarlaw08.CreditKeys'. -/
def creditKeysCard : Claim7 := { stood := { row := creditKeysRow, standIns := [], harness := (true, "c80a8813e514c5d12da507c29b0292953f349b637aa9c395c831a7c56153b3dc"), looks := false }, kinds := [], alts := [], laidByText := true, laidKinds := [.data, .data, .data], laidTests := true, laidLooks := .later }
def CreditKeysCardSaid : Prop := Claim7.holds Tryz.pinned (.plain (OpenSpec.ofChange creditKeysSpec)) creditKeysCard

/-- THE TIED CARD OF 'kilovarlaw08.CreditHours'. -/
def creditHoursCard : Claim7 := { stood := { row := creditHoursRow, standIns := [], harness := (true, "c80a8813e514c5d12da507c29b0292953f349b637aa9c395c831a7c56153b3dc"), looks := false }, kinds := [], alts := [], laidByText := true, laidKinds := [.data, .data, .data], laidTests := true, laidLooks := .later }
def CreditHoursCardSaid : Prop := Claim7.holds Tryz.pinned (.plain (OpenSpec.ofChange creditHoursSpec)) creditHoursCard

/-- THE TIED CARD OF 'kilovarlaw08.CreditOrders'. -/
def creditOrdersCard : Claim7 := { stood := { row := creditOrdersRow, standIns := [], harness := (true, "c80a8813e514c5d12da507c29b0292953f349b637aa9c395c831a7c56153b3dc"), looks := false }, kinds := [], alts := [], laidByText := true, laidKinds := [.data, .data, .data], laidTests := true, laidLooks := .later }
def CreditOrdersCardSaid : Prop := Claim7.holds Tryz.pinned (.plain (OpenSpec.ofChange creditOrdersSpec)) creditOrdersCard

/-- THE TIED CARD OF 'kilovarlaw08.CreditBarriers'. -/
def creditBarriersCard : Claim7 := { stood := { row := creditBarriersRow, standIns := [], harness := (true, "c80a8813e514c5d12da507c29b0292953f349b637aa9c395c831a7c56153b3dc"), looks := false }, kinds := [], alts := [], laidByText := true, laidKinds := [.data, .data, .data], laidTests := true, laidLooks := .later }
def CreditBarriersCardSaid : Prop := Claim7.holds Tryz.pinned (.plain (OpenSpec.ofChange creditBarriersSpec)) creditBarriersCard

/-- THE SECOND FORM's CARD OF 'kilovarlaw08.CreditAccounts'. -/
def creditAccountsUptoCard : Claim7 := { stood := { row := creditAccountsUptoRow, standIns := [], harness := (true, "c80a8813e514c5d12da507c29b0292953f349b637aa9c395c831a7c56153b3dc"), looks := false }, kinds := [], alts := [], laidByText := true, laidKinds := [.data, .data, .data], laidTests := true, laidLooks := .later }
def CreditAccountsUptoCardSaid : Prop := Claim7.holds Tryz.pinned (.plain (OpenSpec.upto creditAccountsSpec)) creditAccountsUptoCard

/-- THE SECOND FORM's CARD OF 'kilovarlaw08.CreditTokens'. -/
def creditTokensUptoCard : Claim7 := { stood := { row := creditTokensUptoRow, standIns := [], harness := (true, "c80a8813e514c5d12da507c29b0292953f349b637aa9c395c831a7c56153b3dc"), looks := false }, kinds := [], alts := [], laidByText := true, laidKinds := [.data, .data, .data], laidTests := true, laidLooks := .later }
def CreditTokensUptoCardSaid : Prop := Claim7.holds Tryz.pinned (.plain (OpenSpec.upto creditTokensSpec)) creditTokensUptoCard

/-- THE SECOND FORM's CARD OF 'kilovarlaw08.CreditKeys'. -/
def creditKeysUptoCard : Claim7 := { stood := { row := creditKeysUptoRow, standIns := [], harness := (true, "c80a8813e514c5d12da507c29b0292953f349b637aa9c395c831a7c56153b3dc"), looks := false }, kinds := [], alts := [], laidByText := true, laidKinds := [.data, .data, .data], laidTests := true, laidLooks := .later }
def CreditKeysUptoCardSaid : Prop := Claim7.holds Tryz.pinned (.plain (OpenSpec.upto creditKeysSpec)) creditKeysUptoCard

/-- THE SECOND FORM's CARD OF 'kilovarlaw08.CreditHours'. -/
def creditHoursUptoCard : Claim7 := { stood := { row := creditHoursUptoRow, standIns := [], harness := (true, "c80a8813e514c5d12da507c29b0292953f349b637aa9c395c831a7c56153b3dc"), looks := false }, kinds := [], alts := [], laidByText := true, laidKinds := [.data, .data, .data], laidTests := true, laidLooks := .later }
def CreditHoursUptoCardSaid : Prop := Claim7.holds Tryz.pinned (.plain (OpenSpec.upto creditHoursSpec)) creditHoursUptoCard

/-- THE SECOND FORM's CARD OF 'kilovarlaw08.CreditOrders'. -/
def creditOrdersUptoCard : Claim7 := { stood := { row := creditOrdersUptoRow, standIns := [], harness := (true, "c80a8813e514c5d12da507c29b0292953f349b637aa9c395c831a7c56153b3dc"), looks := false }, kinds := [], alts := [], laidByText := true, laidKinds := [.data, .data, .data], laidTests := true, laidLooks := .later }
def CreditOrdersUptoCardSaid : Prop := Claim7.holds Tryz.pinned (.plain (OpenSpec.upto creditOrdersSpec)) creditOrdersUptoCard

/-- THE SECOND FORM's CARD OF 'kilovarlaw08.CreditBarriers'. -/
def creditBarriersUptoCard : Claim7 := { stood := { row := creditBarriersUptoRow, standIns := [], harness := (true, "c80a8813e514c5d12da507c29b0292953f349b637aa9c395c831a7c56153b3dc"), looks := false }, kinds := [], alts := [], laidByText := true, laidKinds := [.data, .data, .data], laidTests := true, laidLooks := .later }
def CreditBarriersUptoCardSaid : Prop := Claim7.holds Tryz.pinned (.plain (OpenSpec.upto creditBarriersSpec)) creditBarriersUptoCard
end Rows
end Go.Proofs.YtmefachijohnhaaGreatDoor
