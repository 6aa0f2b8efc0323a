/-
  DERIVED. GIVEN WITH THE SEED: THE CARDS: each row of YtkpddlaljibdoaaGreatDoorRows.lean that lists a variable, with what it lists TIED to the program's text (the seventh form; the later family's looks); each row that meets fmt, with fmt's text TOLD by the authors' own Lean function (tested against real Go, not proved from fmt's source: count such statements apart). THE CARD IS WHAT COUNTS. Prove the row's statement (the work); the ties are given (YtkpddlaljibdoaaGreatDoorTie.lean); close each card by the builder's one call (the guide's Derived/Test/ToyasCard.lean, 'card_holds'). Laid BY PROGRAM, IN A SANDBOX (cutbox-door.mjs). By AI agents, Wed Nov 11 2026. No macro, syntax, notation, axiom, sorry.
-/
import Derived.Test.YtkpddlaljibdoaaGreatDoorRows
import GoSem.ClaimSeven
namespace Go.Proofs.YtkpddlaljibdoaaGreatDoor
namespace Rows

/-- THE TIED CARD OF 'tribunekeep.Barred'. -/
def barredCard : Claim7 := { stood := { row := barredRow, standIns := [], harness := (true, "bab168131253b3de34ecf680c226dac08788e14caf459f2997331a982a690ad0"), looks := false }, kinds := [], alts := [], laidByText := true, laidKinds := [.data, .data, .data, .data, .data, .data, .pinned], laidTests := true, laidLooks := .later }
def BarredCardSaid : Prop := Claim7.holds Tryz.pinned (.plain (OpenSpec.ofChange barredSpec)) barredCard

/-- THE TIED CARD OF 'tribunekeep.Windowed'. -/
def windowedCard : Claim7 := { stood := { row := windowedRow, standIns := [], harness := (true, "bab168131253b3de34ecf680c226dac08788e14caf459f2997331a982a690ad0"), looks := false }, kinds := [], alts := [], laidByText := true, laidKinds := [.data, .data, .data, .data, .data, .data, .pinned], laidTests := true, laidLooks := .later }
def WindowedCardSaid : Prop := Claim7.holds Tryz.pinned (.plain (OpenSpec.ofChange windowedSpec)) windowedCard

/-- THE TIED CARD OF 'tribunekeep.Compacted'. -/
def compactedCard : Claim7 := { stood := { row := compactedRow, standIns := [], harness := (true, "bab168131253b3de34ecf680c226dac08788e14caf459f2997331a982a690ad0"), looks := false }, kinds := [], alts := [], laidByText := true, laidKinds := [.data, .data, .data, .data, .data, .data, .pinned], laidTests := true, laidLooks := .later }
def CompactedCardSaid : Prop := Claim7.holds Tryz.pinned (.plain (OpenSpec.ofChange compactedSpec)) compactedCard

/-- THE SECOND FORM's CARD OF 'tribunekeep.Barred'. -/
def barredUptoCard : Claim7 := { stood := { row := barredUptoRow, standIns := [], harness := (true, "bab168131253b3de34ecf680c226dac08788e14caf459f2997331a982a690ad0"), looks := false }, kinds := [], alts := [], laidByText := true, laidKinds := [.data, .data, .data, .data, .data, .data, .pinned], laidTests := true, laidLooks := .later }
def BarredUptoCardSaid : Prop := Claim7.holds Tryz.pinned (.plain (OpenSpec.upto barredSpec)) barredUptoCard

/-- THE SECOND FORM's CARD OF 'tribunekeep.Windowed'. -/
def windowedUptoCard : Claim7 := { stood := { row := windowedUptoRow, standIns := [], harness := (true, "bab168131253b3de34ecf680c226dac08788e14caf459f2997331a982a690ad0"), looks := false }, kinds := [], alts := [], laidByText := true, laidKinds := [.data, .data, .data, .data, .data, .data, .pinned], laidTests := true, laidLooks := .later }
def WindowedUptoCardSaid : Prop := Claim7.holds Tryz.pinned (.plain (OpenSpec.upto windowedSpec)) windowedUptoCard

/-- THE SECOND FORM's CARD OF 'tribunekeep.Compacted'. -/
def compactedUptoCard : Claim7 := { stood := { row := compactedUptoRow, standIns := [], harness := (true, "bab168131253b3de34ecf680c226dac08788e14caf459f2997331a982a690ad0"), looks := false }, kinds := [], alts := [], laidByText := true, laidKinds := [.data, .data, .data, .data, .data, .data, .pinned], laidTests := true, laidLooks := .later }
def CompactedUptoCardSaid : Prop := Claim7.holds Tryz.pinned (.plain (OpenSpec.upto compactedSpec)) compactedUptoCard
end Rows
end Go.Proofs.YtkpddlaljibdoaaGreatDoor
