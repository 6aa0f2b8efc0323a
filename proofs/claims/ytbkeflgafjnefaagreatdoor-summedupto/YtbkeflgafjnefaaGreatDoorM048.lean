import Derived.Test.YtbkeflgafjnefaaGreatDoorM00
import Derived.Test.YtbkeflgafjnefaaGreatDoorRows
import Derived.Test.YtbkeflgafjnefaaGreatDoorCards
import Derived.WalkKit
set_option maxHeartbeats 20000000
set_option maxRecDepth 100000
set_option linter.all false
namespace Go.Proofs.YtbkeflgafjnefaaGreatDoor
open Go.RowKit
theorem cardWf:Rows.summedUptoRow.wfByText (Rows.OpenSpec.upto Rows.summedSpec)=true:=ax
theorem cardMain:Tryz.prog.mainIs=some (true,"df03ae93f6cda2a6cb34b777c00d65b5baea5836f9d30900ba68c74e20dfb0ce".toList):=ax
theorem cardGoes:false=Rows.summedUptoRow.goesBy Tryz.prog:=ax
end Go.Proofs.YtbkeflgafjnefaaGreatDoor
