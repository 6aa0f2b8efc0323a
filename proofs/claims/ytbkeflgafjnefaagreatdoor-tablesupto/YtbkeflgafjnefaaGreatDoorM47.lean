/- Towards the law of tables: Y8. -/
import Derived.Test.YtbkeflgafjnefaaGreatDoorRows
import Derived.Test.YtbkeflgafjnefaaGreatDoorCards
import Derived.WalkKit
namespace Go.Proofs.YtbkeflgafjnefaaGreatDoor
open Go.RowKit
set_option maxRecDepth 100000
theorem cardWf : Rows.tablesUptoRow.wfByText (Rows.OpenSpec.upto Rows.tablesSpec) = true := by kernel_rfl
theorem cardMain : Tryz.prog.mainIs = some (true, "df03ae93f6cda2a6cb34b777c00d65b5baea5836f9d30900ba68c74e20dfb0ce".toList) := by kernel_rfl
theorem cardGoes : false = Rows.tablesUptoRow.goesBy Tryz.prog := by kernel_rfl
end Go.Proofs.YtbkeflgafjnefaaGreatDoor
