/- Sorted (tribunekeep): for all items and every bound the law answers true: the rows of 'select a.x from t a' stand in order, null ahead of the numbers by their size, each from its own row, and a bound lets through just what is above it. Conditions: the row's own (its laid variables, and its bound on what is read: at most 1,048,576 in all). -/
import Derived.Test.YtbkeflgafjnefaaGreatDoorM047
import Derived.Test.YtbkeflgafjnefaaGreatDoorM048
set_option maxHeartbeats 20000000
set_option maxRecDepth 100000
set_option linter.all false
namespace Go.Proofs.YtbkeflgafjnefaaGreatDoor
open Go.ChangeShapes Go.WideShapes Go.ChangeAt Go.RowKit
theorem sortedCardProof:Rows.SortedUptoCardSaid:=Claim7.holds_tied_plain_at .later [] _ _ _ _ sorted_said (fun _ h=>by cases h) cardWf (fun _ h=>by cases h) sortedUpto_row_tie rfl ⟨rfl,rfl⟩ cardMain rfl sorted_plain cardGoes
end Go.Proofs.YtbkeflgafjnefaaGreatDoor
