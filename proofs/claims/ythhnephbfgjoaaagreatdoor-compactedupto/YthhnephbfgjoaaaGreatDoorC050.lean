/- Compacted (tribunekeep): for all items, acts and throwings away the law answers true: an engine on which Compact is called answers every act as one on which it is not. Conditions: the row's own (its laid variables, and its bound on what is read: at most 1,048,576 in all). -/
import Derived.Test.YthhnephbfgjoaaaGreatDoorC048
import Derived.Test.YthhnephbfgjoaaaGreatDoorC049
set_option maxHeartbeats 0
set_option maxRecDepth 100000
set_option linter.all false
namespace Go.Proofs.YthhnephbfgjoaaaGreatDoor
open ax0
open Go.ChangeShapes Go.WideShapes Go.ChangeAt Go.RowKit
theorem compactedCardProof:Rows.CompactedUptoCardSaid:=Claim7.holds_tied_plain_at .later [] _ _ _ _ compacted_said (fun _ h=>by cases h) cardWf (fun _ h=>by cases h) compactedUpto_row_tie rfl ⟨rfl,rfl⟩ cardMain rfl compacted_plain cardGoes
