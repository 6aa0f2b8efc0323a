/- Windowed (tribunekeep): for all windows, bounds, ticks and throwings away the law answers true: each Ask is answered just if fewer than so many were answered within the window, Compact keeps no entry that lies outside it, and the entries are counted on. Conditions: the row's own (its laid variables, and its bound on what is read: at most 1,048,576 in all). -/
import Derived.Test.YtkpddlaljibdoaaGreatDoorM048
import Derived.Test.YtkpddlaljibdoaaGreatDoorM049
set_option maxHeartbeats 20000000
set_option maxRecDepth 100000
set_option linter.all false
namespace Go.Proofs.YtkpddlaljibdoaaGreatDoor
open Go.ChangeShapes Go.WideShapes Go.ChangeAt Go.RowKit
theorem windowedCardProof:Rows.WindowedUptoCardSaid:=Claim7.holds_tied_plain_at .later [] _ _ _ _ windowed_said (fun _ h=>by cases h) cardWf (fun _ h=>by cases h) windowedUpto_row_tie rfl ⟨rfl,rfl⟩ cardMain rfl windowed_plain cardGoes
end Go.Proofs.YtkpddlaljibdoaaGreatDoor
