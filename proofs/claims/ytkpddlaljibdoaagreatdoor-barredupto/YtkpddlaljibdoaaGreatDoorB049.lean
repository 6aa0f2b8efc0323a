import Derived.Test.YtkpddlaljibdoaaGreatDoorB00
import Derived.Test.YtkpddlaljibdoaaGreatDoorRows
import Derived.Test.YtkpddlaljibdoaaGreatDoorCards
import Derived.WalkKit
set_option maxHeartbeats 20000000
set_option maxRecDepth 100000
set_option linter.all false
namespace Go.Proofs.YtkpddlaljibdoaaGreatDoor
open Go.RowKit
def cardWf:Rows.barredUptoRow.wfByText (Rows.OpenSpec.upto Rows.barredSpec)=true:=ax
def cardMain:Tryz.prog.mainIs=some (true,"bab168131253b3de34ecf680c226dac08788e14caf459f2997331a982a690ad0".toList):=ax
def cardGoes:false=Rows.barredUptoRow.goesBy Tryz.prog:=ax
