import Derived.Test.YthhnephbfgjoaaaGreatDoorC00
import Derived.Test.YthhnephbfgjoaaaGreatDoorCards
import Derived.WalkKit
set_option maxHeartbeats 0
set_option maxRecDepth 100000
set_option linter.all false
namespace Go.Proofs.YthhnephbfgjoaaaGreatDoor
open Go.RowKit
def cardWf:Rows.compactedUptoRow.wfByText (Rows.OpenSpec.upto Rows.compactedSpec)=true:=ax
def cardMain:Tryz.prog.mainIs=some (true,"ebb4c67537686ee94ab0a437385652095456b7db01bc3ee5131e6552a118db85".toList):=ax
def cardGoes:false=Rows.compactedUptoRow.goesBy Tryz.prog:=ax
