/- Proved: 'tribune/tribunelaw.Tables', called with any script that reads as data, returns true, and the script reads behind the call as it read before: after every prefix of a script of Create, Insert, Delete and Tick (and of the other steps, which are passed over) the engines print what the document's engines print. Its conditions: the script is of bulk at most 1048576 (the second form), and the package-level tables that the row lists hold what the program's text lays (the card's tie). -/
import Derived.Test.YtbkeflgafjnefaaGreatDoorM46
import Derived.Test.YtbkeflgafjnefaaGreatDoorM47
import Derived.Test.YtbkeflgafjnefaaGreatDoorTie
namespace Go.Proofs.YtbkeflgafjnefaaGreatDoor
open Go.ChangeShapes Go.WideShapes Go.ChangeAt Go.RowKit
set_option maxRecDepth 100000
/-- The card. -/
theorem tablesCard : Rows.TablesUptoCardSaid :=
  Claim7.holds_tied_plain_at .later [] _ _ _ _ tables_said (fun _ h => by cases h) cardWf (fun _ h => by cases h) tablesUpto_row_tie rfl ⟨rfl, rfl⟩ cardMain rfl tables_plain cardGoes
end Go.Proofs.YtbkeflgafjnefaaGreatDoor
