import Derived.Test.YthhnephbfgjoaaaGreatDoorC00
import Derived.Test.YthhnephbfgjoaaaGreatDoorRows
import Derived.WalkKit
import Derived.ProofKit
set_option maxHeartbeats 0
set_option maxRecDepth 100000
set_option linter.all false
namespace Go.Proofs.YthhnephbfgjoaaaGreatDoor
open Go.ChangeShapes Go.WideShapes Go.ChangeAt Go.RowKit
def tabFact0:(Rows.compactedUptoRow.wf (OpenSpec.ofChange (Rows.OpenSpec.upto Rows.compactedSpec).bare))=true:=ax
def tabFact1:(laidOutB Tryz.prog)=true:=ax
def tabFact2:(mapsRowed Tryz.prog)=true:=ax
def tabFact3:(Tryz.f3.params.all (Tryz.prog.readableRec ·))=true:=ax
def tabFact4:(namedTie Tryz.prog Rows.compactedUptoRow.named (Rows.OpenSpec.upto Rows.compactedSpec).bare.vars)=true:=ax
def tabFact5:((Rows.compactedUptoRow.stops==[]))=true:=ax
def tabFact6:((Tryz.prog.stops==[]))=true:=ax
def tabFact7:((Rows.compactedUptoRow.knobs==[]))=true:=ax
def tabFact8:((Tryz.prog.stopKnobs==[]))=true:=ax
def tabFact13:((Rows.compactedUptoRow.maps==(Tryz.f3.params.toList++(Rows.OpenSpec.upto Rows.compactedSpec).bare.plain.varTypes Tryz.prog).any (Tryz.prog.mapsRec ·)))=true:=ax
def tabFact14:((Rows.compactedUptoRow.ifaces==(Tryz.f3.params.toList++(Rows.OpenSpec.upto Rows.compactedSpec).bare.plain.varTypes Tryz.prog).any (Tryz.prog.ifacesRec ·)))=true:=ax
def tabFact15:((Rows.compactedUptoRow.mapsOut==Tryz.prog.mapsAmong Tryz.f3.resultTypes.toList))=true:=ax
def tabFact16:((Rows.compactedUptoRow.loops==(Tryz.f3.params.toList++(Rows.OpenSpec.upto Rows.compactedSpec).bare.plain.varTypes Tryz.prog).any (Tryz.prog.loopsFrom ·)))=true:=ax
def tabFact17:((Rows.compactedUptoRow.wideKeys==(Tryz.f3.params.toList++(Rows.OpenSpec.upto Rows.compactedSpec).bare.plain.varTypes Tryz.prog++Tryz.f3.resultTypes.toList).any (Tryz.prog.wideKeysFrom ·)))=true:=ax
def tabFact18:((Rows.OpenSpec.upto Rows.compactedSpec).bare.vars.all (Tryz.prog.varReadable ·))=true:=ax
def tabFact19:(Tryz.f3.resultTypes.all (fun t=>Tryz.prog.readableRec t&&decide (t<Tryz.prog.types.size)))=true:=ax
def tabFact20:((Rows.compactedUptoRow.ifacesOut==Tryz.f3.resultTypes.toList.any (Tryz.prog.ifacesRec ·)))=true:=ax
def tabFact21:((Rows.compactedUptoRow.loopsOut==Tryz.f3.resultTypes.toList.any (Tryz.prog.loopsFrom ·)))=true:=ax
def tabFact22:((Rows.compactedUptoRow.plainKeys==Tryz.prog.plainKeys))=true:=ax
def tabFact23:(Rows.compactedUptoRow.shortTexts.isNone)=true:=ax
def tabFact24:(Tryz.prog.stopsHeard)=true:=ax
def tabFact25:(Tryz.prog.mayEnter)=true:=ax
def tabFact26:((Rows.compactedUptoRow.lifted==Tryz.prog.liftsFinal))=true:=ax
def tabFact27:((Tryz.prog.make==some Rows.compactedUptoRow.make))=true:=ax
def tabFact28:((Rows.compactedUptoRow.kinds==(if Rows.compactedUptoRow.domain.isEmpty then [] else Tryz.f3.params.toList.map fun t=>match Tryz.prog.underlying t with | some (.int k)=>some k | _=>none)))=true:=ax
def tabFact29:((Rows.compactedUptoRow.pinned==Rows.compactedUptoRow.pinnedBy))=true:=ax
def tabFact30:((Rows.compactedUptoRow.veiled==(Tryz.f3.params.toList++(Rows.OpenSpec.upto Rows.compactedSpec).bare.plain.varTypes Tryz.prog++Tryz.f3.resultTypes.toList).any (Tryz.prog.veiledRec ·)))=true:=ax
def tabFact31:(Rows.compactedUptoRow.veiledFits Tryz.prog Tryz.f3.params.toList (Tryz.f3.params.toList++(Rows.OpenSpec.upto Rows.compactedSpec).bare.plain.varTypes Tryz.prog++Tryz.f3.resultTypes.toList))=true:=ax
def tabFact9:((Rows.compactedUptoRow.inPlace==Tryz.prog.inPlace 3))=true:=ax
def tabFact10:((Rows.compactedUptoRow.unfollowed==Tryz.prog.unfollowed 3))=true:=ax
def tabFact11:((Rows.compactedUptoRow.recurses==Tryz.prog.recurses 3))=true:=ax
def tabFact12:((Rows.compactedUptoRow.named==Tryz.prog.varsNamed 3))=true:=ax
