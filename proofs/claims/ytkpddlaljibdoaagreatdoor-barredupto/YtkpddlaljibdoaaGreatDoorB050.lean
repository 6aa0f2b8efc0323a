/- Barred (tribunekeep): for all items and texts the law answers true: a policy against a user denies that user every answer, writes nothing, and denies nobody else; once it is dropped all is answered. Conditions: the row's own (its laid variables, and its bound on what is read: at most 1,048,576 in all). -/
import Derived.Test.YtkpddlaljibdoaaGreatDoorB048
import Derived.Test.YtkpddlaljibdoaaGreatDoorB049
set_option maxHeartbeats 20000000
set_option maxRecDepth 100000
set_option linter.all false
namespace Go.Proofs.YtkpddlaljibdoaaGreatDoor
open Go.ChangeShapes Go.WideShapes Go.ChangeAt Go.RowKit
theorem barredCardProof:Rows.BarredUptoCardSaid:=Claim7.holds_tied_plain_at .later [] _ _ _ _ barred_said (fun _ h=>by cases h) cardWf (fun _ h=>by cases h) barredUpto_row_tie rfl ⟨rfl,rfl⟩ cardMain rfl barred_plain cardGoes
