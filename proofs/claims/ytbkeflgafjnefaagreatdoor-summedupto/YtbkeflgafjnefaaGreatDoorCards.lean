/-
  DERIVED. GIVEN WITH THE SEED: THE CARDS: each row of YtbkeflgafjnefaaGreatDoorRows.lean that lists a variable, with what it lists TIED to the program's text (the seventh form; the later family's looks); each row that meets fmt, with fmt's text TOLD by the authors' own Lean function (tested against real Go, not proved from fmt's source: count such statements apart). THE CARD IS WHAT COUNTS. Prove the row's statement (the work); the ties are given (YtbkeflgafjnefaaGreatDoorTie.lean); close each card by the builder's one call (the guide's Derived/Test/ToyasCard.lean, 'card_holds'). Laid BY PROGRAM, IN A SANDBOX (cutbox-door.mjs). By AI agents, Wed Nov 11 2026. No macro, syntax, notation, axiom, sorry.
-/
import Derived.Test.YtbkeflgafjnefaaGreatDoorRows
import GoSem.ClaimSeven
namespace Go.Proofs.YtbkeflgafjnefaaGreatDoor
namespace Rows

/-- THE TIED CARD OF 'tribunelaw.Tables'. -/
def tablesCard : Claim7 := { stood := { row := tablesRow, standIns := [], harness := (true, "df03ae93f6cda2a6cb34b777c00d65b5baea5836f9d30900ba68c74e20dfb0ce"), looks := false }, kinds := [], alts := [], laidByText := true, laidKinds := [.data, .data, .data, .data, .data, .data, .pinned], laidTests := true, laidLooks := .later }
def TablesCardSaid : Prop := Claim7.holds Tryz.pinned (.plain (OpenSpec.ofChange tablesSpec)) tablesCard

/-- THE TIED CARD OF 'tribunelaw.Queries'. -/
def queriesCard : Claim7 := { stood := { row := queriesRow, standIns := [], harness := (true, "df03ae93f6cda2a6cb34b777c00d65b5baea5836f9d30900ba68c74e20dfb0ce"), looks := false }, kinds := [], alts := [], laidByText := true, laidKinds := [.data, .data, .data, .data, .data, .data, .pinned], laidTests := true, laidLooks := .later }
def QueriesCardSaid : Prop := Claim7.holds Tryz.pinned (.plain (OpenSpec.ofChange queriesSpec)) queriesCard

/-- THE TIED CARD OF 'tribunekeep.Printed'. -/
def printedCard : Claim7 := { stood := { row := printedRow, standIns := [], harness := (true, "df03ae93f6cda2a6cb34b777c00d65b5baea5836f9d30900ba68c74e20dfb0ce"), looks := false }, kinds := [], alts := [], laidByText := true, laidKinds := [.data, .data, .data, .data, .data, .data, .pinned], laidTests := true, laidLooks := .later }
def PrintedCardSaid : Prop := Claim7.holds Tryz.pinned (.plain (OpenSpec.ofChange printedSpec)) printedCard

/-- THE TIED CARD OF 'tribunekeep.Parted'. -/
def partedCard : Claim7 := { stood := { row := partedRow, standIns := [], harness := (true, "df03ae93f6cda2a6cb34b777c00d65b5baea5836f9d30900ba68c74e20dfb0ce"), looks := false }, kinds := [], alts := [], laidByText := true, laidKinds := [.data, .data, .data, .data, .data, .data, .pinned], laidTests := true, laidLooks := .later }
def PartedCardSaid : Prop := Claim7.holds Tryz.pinned (.plain (OpenSpec.ofChange partedSpec)) partedCard

/-- THE TIED CARD OF 'tribunekeep.Sorted'. -/
def sortedCard : Claim7 := { stood := { row := sortedRow, standIns := [], harness := (true, "df03ae93f6cda2a6cb34b777c00d65b5baea5836f9d30900ba68c74e20dfb0ce"), looks := false }, kinds := [], alts := [], laidByText := true, laidKinds := [.data, .data, .data, .data, .data, .data, .pinned], laidTests := true, laidLooks := .later }
def SortedCardSaid : Prop := Claim7.holds Tryz.pinned (.plain (OpenSpec.ofChange sortedSpec)) sortedCard

/-- THE TIED CARD OF 'tribunekeep.Summed'. -/
def summedCard : Claim7 := { stood := { row := summedRow, standIns := [], harness := (true, "df03ae93f6cda2a6cb34b777c00d65b5baea5836f9d30900ba68c74e20dfb0ce"), looks := false }, kinds := [], alts := [], laidByText := true, laidKinds := [.data, .data, .data, .data, .data, .data, .pinned], laidTests := true, laidLooks := .later }
def SummedCardSaid : Prop := Claim7.holds Tryz.pinned (.plain (OpenSpec.ofChange summedSpec)) summedCard

/-- THE TIED CARD OF 'tribunekeep.Barred'. -/
def barredCard : Claim7 := { stood := { row := barredRow, standIns := [], harness := (true, "df03ae93f6cda2a6cb34b777c00d65b5baea5836f9d30900ba68c74e20dfb0ce"), looks := false }, kinds := [], alts := [], laidByText := true, laidKinds := [.data, .data, .data, .data, .data, .data, .pinned], laidTests := true, laidLooks := .later }
def BarredCardSaid : Prop := Claim7.holds Tryz.pinned (.plain (OpenSpec.ofChange barredSpec)) barredCard

/-- THE TIED CARD OF 'tribunekeep.Windowed'. -/
def windowedCard : Claim7 := { stood := { row := windowedRow, standIns := [], harness := (true, "df03ae93f6cda2a6cb34b777c00d65b5baea5836f9d30900ba68c74e20dfb0ce"), looks := false }, kinds := [], alts := [], laidByText := true, laidKinds := [.data, .data, .data, .data, .data, .data, .pinned], laidTests := true, laidLooks := .later }
def WindowedCardSaid : Prop := Claim7.holds Tryz.pinned (.plain (OpenSpec.ofChange windowedSpec)) windowedCard

/-- THE TIED CARD OF 'tribunekeep.Hidden'. -/
def hiddenCard : Claim7 := { stood := { row := hiddenRow, standIns := [], harness := (true, "df03ae93f6cda2a6cb34b777c00d65b5baea5836f9d30900ba68c74e20dfb0ce"), looks := false }, kinds := [], alts := [], laidByText := true, laidKinds := [.data, .data, .data, .data, .data, .data, .pinned], laidTests := true, laidLooks := .later }
def HiddenCardSaid : Prop := Claim7.holds Tryz.pinned (.plain (OpenSpec.ofChange hiddenSpec)) hiddenCard

/-- THE TIED CARD OF 'tribunekeep.Compacted'. -/
def compactedCard : Claim7 := { stood := { row := compactedRow, standIns := [], harness := (true, "df03ae93f6cda2a6cb34b777c00d65b5baea5836f9d30900ba68c74e20dfb0ce"), looks := false }, kinds := [], alts := [], laidByText := true, laidKinds := [.data, .data, .data, .data, .data, .data, .pinned], laidTests := true, laidLooks := .later }
def CompactedCardSaid : Prop := Claim7.holds Tryz.pinned (.plain (OpenSpec.ofChange compactedSpec)) compactedCard

/-- THE TIED CARD OF 'tribunelaw.Wholes'. -/
def wholesCard : Claim7 := { stood := { row := wholesRow, standIns := [], harness := (true, "df03ae93f6cda2a6cb34b777c00d65b5baea5836f9d30900ba68c74e20dfb0ce"), looks := false }, kinds := [], alts := [], laidByText := true, laidKinds := [.data, .data, .data, .data, .data, .data, .pinned], laidTests := true, laidLooks := .later }
def WholesCardSaid : Prop := Claim7.holds Tryz.pinned (.plain (OpenSpec.ofChange wholesSpec)) wholesCard

/-- THE TIED CARD OF 'tribunelaw.All'. -/
def allCard : Claim7 := { stood := { row := allRow, standIns := [], harness := (true, "df03ae93f6cda2a6cb34b777c00d65b5baea5836f9d30900ba68c74e20dfb0ce"), looks := false }, kinds := [], alts := [], laidByText := true, laidKinds := [.data, .data, .data, .data, .data, .data, .pinned], laidTests := true, laidLooks := .later }
def AllCardSaid : Prop := Claim7.holds Tryz.pinned (.plain (OpenSpec.ofChange allSpec)) allCard

/-- THE SECOND FORM's CARD OF 'tribunelaw.Tables'. -/
def tablesUptoCard : Claim7 := { stood := { row := tablesUptoRow, standIns := [], harness := (true, "df03ae93f6cda2a6cb34b777c00d65b5baea5836f9d30900ba68c74e20dfb0ce"), looks := false }, kinds := [], alts := [], laidByText := true, laidKinds := [.data, .data, .data, .data, .data, .data, .pinned], laidTests := true, laidLooks := .later }
def TablesUptoCardSaid : Prop := Claim7.holds Tryz.pinned (.plain (OpenSpec.upto tablesSpec)) tablesUptoCard

/-- THE SECOND FORM's CARD OF 'tribunelaw.Queries'. -/
def queriesUptoCard : Claim7 := { stood := { row := queriesUptoRow, standIns := [], harness := (true, "df03ae93f6cda2a6cb34b777c00d65b5baea5836f9d30900ba68c74e20dfb0ce"), looks := false }, kinds := [], alts := [], laidByText := true, laidKinds := [.data, .data, .data, .data, .data, .data, .pinned], laidTests := true, laidLooks := .later }
def QueriesUptoCardSaid : Prop := Claim7.holds Tryz.pinned (.plain (OpenSpec.upto queriesSpec)) queriesUptoCard

/-- THE SECOND FORM's CARD OF 'tribunekeep.Printed'. -/
def printedUptoCard : Claim7 := { stood := { row := printedUptoRow, standIns := [], harness := (true, "df03ae93f6cda2a6cb34b777c00d65b5baea5836f9d30900ba68c74e20dfb0ce"), looks := false }, kinds := [], alts := [], laidByText := true, laidKinds := [.data, .data, .data, .data, .data, .data, .pinned], laidTests := true, laidLooks := .later }
def PrintedUptoCardSaid : Prop := Claim7.holds Tryz.pinned (.plain (OpenSpec.upto printedSpec)) printedUptoCard

/-- THE SECOND FORM's CARD OF 'tribunekeep.Parted'. -/
def partedUptoCard : Claim7 := { stood := { row := partedUptoRow, standIns := [], harness := (true, "df03ae93f6cda2a6cb34b777c00d65b5baea5836f9d30900ba68c74e20dfb0ce"), looks := false }, kinds := [], alts := [], laidByText := true, laidKinds := [.data, .data, .data, .data, .data, .data, .pinned], laidTests := true, laidLooks := .later }
def PartedUptoCardSaid : Prop := Claim7.holds Tryz.pinned (.plain (OpenSpec.upto partedSpec)) partedUptoCard

/-- THE SECOND FORM's CARD OF 'tribunekeep.Sorted'. -/
def sortedUptoCard : Claim7 := { stood := { row := sortedUptoRow, standIns := [], harness := (true, "df03ae93f6cda2a6cb34b777c00d65b5baea5836f9d30900ba68c74e20dfb0ce"), looks := false }, kinds := [], alts := [], laidByText := true, laidKinds := [.data, .data, .data, .data, .data, .data, .pinned], laidTests := true, laidLooks := .later }
def SortedUptoCardSaid : Prop := Claim7.holds Tryz.pinned (.plain (OpenSpec.upto sortedSpec)) sortedUptoCard

/-- THE SECOND FORM's CARD OF 'tribunekeep.Summed'. -/
def summedUptoCard : Claim7 := { stood := { row := summedUptoRow, standIns := [], harness := (true, "df03ae93f6cda2a6cb34b777c00d65b5baea5836f9d30900ba68c74e20dfb0ce"), looks := false }, kinds := [], alts := [], laidByText := true, laidKinds := [.data, .data, .data, .data, .data, .data, .pinned], laidTests := true, laidLooks := .later }
def SummedUptoCardSaid : Prop := Claim7.holds Tryz.pinned (.plain (OpenSpec.upto summedSpec)) summedUptoCard

/-- THE SECOND FORM's CARD OF 'tribunekeep.Barred'. -/
def barredUptoCard : Claim7 := { stood := { row := barredUptoRow, standIns := [], harness := (true, "df03ae93f6cda2a6cb34b777c00d65b5baea5836f9d30900ba68c74e20dfb0ce"), looks := false }, kinds := [], alts := [], laidByText := true, laidKinds := [.data, .data, .data, .data, .data, .data, .pinned], laidTests := true, laidLooks := .later }
def BarredUptoCardSaid : Prop := Claim7.holds Tryz.pinned (.plain (OpenSpec.upto barredSpec)) barredUptoCard

/-- THE SECOND FORM's CARD OF 'tribunekeep.Windowed'. -/
def windowedUptoCard : Claim7 := { stood := { row := windowedUptoRow, standIns := [], harness := (true, "df03ae93f6cda2a6cb34b777c00d65b5baea5836f9d30900ba68c74e20dfb0ce"), looks := false }, kinds := [], alts := [], laidByText := true, laidKinds := [.data, .data, .data, .data, .data, .data, .pinned], laidTests := true, laidLooks := .later }
def WindowedUptoCardSaid : Prop := Claim7.holds Tryz.pinned (.plain (OpenSpec.upto windowedSpec)) windowedUptoCard

/-- THE SECOND FORM's CARD OF 'tribunekeep.Hidden'. -/
def hiddenUptoCard : Claim7 := { stood := { row := hiddenUptoRow, standIns := [], harness := (true, "df03ae93f6cda2a6cb34b777c00d65b5baea5836f9d30900ba68c74e20dfb0ce"), looks := false }, kinds := [], alts := [], laidByText := true, laidKinds := [.data, .data, .data, .data, .data, .data, .pinned], laidTests := true, laidLooks := .later }
def HiddenUptoCardSaid : Prop := Claim7.holds Tryz.pinned (.plain (OpenSpec.upto hiddenSpec)) hiddenUptoCard

/-- THE SECOND FORM's CARD OF 'tribunekeep.Compacted'. -/
def compactedUptoCard : Claim7 := { stood := { row := compactedUptoRow, standIns := [], harness := (true, "df03ae93f6cda2a6cb34b777c00d65b5baea5836f9d30900ba68c74e20dfb0ce"), looks := false }, kinds := [], alts := [], laidByText := true, laidKinds := [.data, .data, .data, .data, .data, .data, .pinned], laidTests := true, laidLooks := .later }
def CompactedUptoCardSaid : Prop := Claim7.holds Tryz.pinned (.plain (OpenSpec.upto compactedSpec)) compactedUptoCard

/-- THE SECOND FORM's CARD OF 'tribunelaw.Wholes'. -/
def wholesUptoCard : Claim7 := { stood := { row := wholesUptoRow, standIns := [], harness := (true, "df03ae93f6cda2a6cb34b777c00d65b5baea5836f9d30900ba68c74e20dfb0ce"), looks := false }, kinds := [], alts := [], laidByText := true, laidKinds := [.data, .data, .data, .data, .data, .data, .pinned], laidTests := true, laidLooks := .later }
def WholesUptoCardSaid : Prop := Claim7.holds Tryz.pinned (.plain (OpenSpec.upto wholesSpec)) wholesUptoCard

/-- THE SECOND FORM's CARD OF 'tribunelaw.All'. -/
def allUptoCard : Claim7 := { stood := { row := allUptoRow, standIns := [], harness := (true, "df03ae93f6cda2a6cb34b777c00d65b5baea5836f9d30900ba68c74e20dfb0ce"), looks := false }, kinds := [], alts := [], laidByText := true, laidKinds := [.data, .data, .data, .data, .data, .data, .pinned], laidTests := true, laidLooks := .later }
def AllUptoCardSaid : Prop := Claim7.holds Tryz.pinned (.plain (OpenSpec.upto allSpec)) allUptoCard
end Rows
end Go.Proofs.YtbkeflgafjnefaaGreatDoor
