/- Towards the law of tables: Y6. -/
import Derived.Test.YtbkeflgafjnefaaGreatDoorM42
namespace Go.Proofs.YtbkeflgafjnefaaGreatDoor
open Go.ChangeShapes Go.WideShapes Go.ChangeAt Go.RowKit
set_option maxRecDepth 100000
theorem tabFact11 : ((Rows.tablesUptoRow.recurses == Tryz.prog.recurses 3)) = true := by kernel_rfl
theorem tabFact12 : ((Rows.tablesUptoRow.named == Tryz.prog.varsNamed 3)) = true := by kernel_rfl
end Go.Proofs.YtbkeflgafjnefaaGreatDoor
