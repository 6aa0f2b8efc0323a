/-
  DERIVED. GIVEN WITH THE SEED: THE CARDS: each row of YtjebdgbpopolkaaGreatDoorRows.lean that lists a variable, with what it lists TIED to the program's text (the seventh form; the later family's looks); each row that meets fmt, with fmt's text TOLD by the authors' own Lean function (tested against real Go, not proved from fmt's source: count such statements apart). THE CARD IS WHAT COUNTS. Prove the row's statement (the work); the ties are given (YtjebdgbpopolkaaGreatDoorTie.lean); close each card by the builder's one call (the guide's Derived/Test/ToyasCard.lean, 'card_holds'). Laid BY PROGRAM, IN A SANDBOX (cutbox-door.mjs). By AI agents, Wed Nov 11 2026. No macro, syntax, notation, axiom, sorry.
-/
import Derived.Test.YtjebdgbpopolkaaGreatDoorRows
import GoSem.ClaimSeven
namespace Go.Proofs.YtjebdgbpopolkaaGreatDoor
namespace Rows

/-- THE TIED CARD OF 'tribunekeep.Parted'. -/
def partedCard : Claim7 := { stood := { row := partedRow, standIns := [], harness := (true, "d5f546693bd0a10dba194900092f37c7bfc9e5b586ac4a064c5c6972fcd8fd90"), looks := false }, kinds := [], alts := [], laidByText := true, laidKinds := [.data, .data, .data, .data, .data, .data, .pinned], laidTests := true, laidLooks := .later }
def PartedCardSaid : Prop := Claim7.holds Tryz.pinned (.plain (OpenSpec.ofChange partedSpec)) partedCard

/-- THE TIED CARD OF 'tribunekeep.Hidden'. -/
def hiddenCard : Claim7 := { stood := { row := hiddenRow, standIns := [], harness := (true, "d5f546693bd0a10dba194900092f37c7bfc9e5b586ac4a064c5c6972fcd8fd90"), looks := false }, kinds := [], alts := [], laidByText := true, laidKinds := [.data, .data, .data, .data, .data, .data, .pinned], laidTests := true, laidLooks := .later }
def HiddenCardSaid : Prop := Claim7.holds Tryz.pinned (.plain (OpenSpec.ofChange hiddenSpec)) hiddenCard

/-- THE SECOND FORM's CARD OF 'tribunekeep.Parted'. -/
def partedUptoCard : Claim7 := { stood := { row := partedUptoRow, standIns := [], harness := (true, "d5f546693bd0a10dba194900092f37c7bfc9e5b586ac4a064c5c6972fcd8fd90"), looks := false }, kinds := [], alts := [], laidByText := true, laidKinds := [.data, .data, .data, .data, .data, .data, .pinned], laidTests := true, laidLooks := .later }
def PartedUptoCardSaid : Prop := Claim7.holds Tryz.pinned (.plain (OpenSpec.upto partedSpec)) partedUptoCard

/-- THE SECOND FORM's CARD OF 'tribunekeep.Hidden'. -/
def hiddenUptoCard : Claim7 := { stood := { row := hiddenUptoRow, standIns := [], harness := (true, "d5f546693bd0a10dba194900092f37c7bfc9e5b586ac4a064c5c6972fcd8fd90"), looks := false }, kinds := [], alts := [], laidByText := true, laidKinds := [.data, .data, .data, .data, .data, .data, .pinned], laidTests := true, laidLooks := .later }
def HiddenUptoCardSaid : Prop := Claim7.holds Tryz.pinned (.plain (OpenSpec.upto hiddenSpec)) hiddenUptoCard
end Rows
end Go.Proofs.YtjebdgbpopolkaaGreatDoor
