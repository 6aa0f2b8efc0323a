/- Towards the law of tables: Y5. -/
import Derived.Test.YtbkeflgafjnefaaGreatDoorM42
namespace Go.Proofs.YtbkeflgafjnefaaGreatDoor
open Go.ChangeShapes Go.WideShapes Go.ChangeAt Go.RowKit
set_option maxRecDepth 100000
theorem tabFact9 : ((Rows.tablesUptoRow.inPlace == Tryz.prog.inPlace 3)) = true := by kernel_rfl
theorem tabFact10 : ((Rows.tablesUptoRow.unfollowed == Tryz.prog.unfollowed 3)) = true := by kernel_rfl
end Go.Proofs.YtbkeflgafjnefaaGreatDoor
