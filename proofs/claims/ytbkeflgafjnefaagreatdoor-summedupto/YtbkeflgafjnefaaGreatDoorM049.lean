/- Summed (tribunekeep): for all items the law answers true: the groups' counts are the rows that they are from and add up to all rows; two tables beside one another have all pairs; counts, sums, least and greatest are those of what went in. Conditions: the row's own (its laid variables, and its bound on what is read: at most 1,048,576 in all). -/
import Derived.Test.YtbkeflgafjnefaaGreatDoorM047
import Derived.Test.YtbkeflgafjnefaaGreatDoorM048
set_option maxHeartbeats 20000000
set_option maxRecDepth 100000
set_option linter.all false
namespace Go.Proofs.YtbkeflgafjnefaaGreatDoor
open Go.ChangeShapes Go.WideShapes Go.ChangeAt Go.RowKit
theorem summedCardProof:Rows.SummedUptoCardSaid:=Claim7.holds_tied_plain_at .later [] _ _ _ _ summed_said (fun _ h=>by cases h) cardWf (fun _ h=>by cases h) summedUpto_row_tie rfl ⟨rfl,rfl⟩ cardMain rfl summed_plain cardGoes
end Go.Proofs.YtbkeflgafjnefaaGreatDoor
