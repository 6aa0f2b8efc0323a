/- Proved: 'tribune/tribunekeep.Printed', called with any items and any text that read as data, returns true, and both read behind the call as before. Its conditions: what it reads is of bulk at most 1048576 (the second form), and the package-level tables that the row lists hold what the program's text lays (the card's tie). The texts are shortened by a program (names, rows) for a claim's bytes. -/
import Derived.Test.YtbkeflgafjnefaaGreatDoorM047
import Derived.Test.YtbkeflgafjnefaaGreatDoorM048
set_option maxHeartbeats 20000000
set_option maxRecDepth 100000
set_option linter.all false
namespace Go.Proofs.YtbkeflgafjnefaaGreatDoor
open Go.ChangeShapes Go.WideShapes Go.ChangeAt Go.RowKit
theorem printedCardProof:Rows.PrintedUptoCardSaid:=Claim7.holds_tied_plain_at .later [] _ _ _ _ printed_said (fun _ h=>by cases h) cardWf (fun _ h=>by cases h) printedUpto_row_tie rfl ⟨rfl,rfl⟩ cardMain rfl printed_plain cardGoes
end Go.Proofs.YtbkeflgafjnefaaGreatDoor
