import Derived.Test.YtjebdgbpopolkaaGreatDoorM00
import Derived.Test.YtjebdgbpopolkaaGreatDoorRows
import Derived.WalkKit
import Derived.ProofKit
set_option maxHeartbeats 0
set_option maxRecDepth 100000
set_option linter.all false
namespace Go.Proofs.YtjebdgbpopolkaaGreatDoor
open Go.ChangeShapes Go.WideShapes Go.ChangeAt Go.RowKit
def tabFact0:(Rows.partedUptoRow.wf (OpenSpec.ofChange (Rows.OpenSpec.upto Rows.partedSpec).bare))=true:=ax
def tabFact1:(laidOutB Tryz.prog)=true:=ax
def tabFact2:(mapsRowed Tryz.prog)=true:=ax
def tabFact3:(Tryz.f3.params.all (Tryz.prog.readableRec ·))=true:=ax
def tabFact4:(namedTie Tryz.prog Rows.partedUptoRow.named (Rows.OpenSpec.upto Rows.partedSpec).bare.vars)=true:=ax
def tabFact5:((Rows.partedUptoRow.stops==[]))=true:=ax
def tabFact6:((Tryz.prog.stops==[]))=true:=ax
def tabFact7:((Rows.partedUptoRow.knobs==[]))=true:=ax
def tabFact8:((Tryz.prog.stopKnobs==[]))=true:=ax
def tabFact13:((Rows.partedUptoRow.maps==(Tryz.f3.params.toList++(Rows.OpenSpec.upto Rows.partedSpec).bare.plain.varTypes Tryz.prog).any (Tryz.prog.mapsRec ·)))=true:=ax
def tabFact14:((Rows.partedUptoRow.ifaces==(Tryz.f3.params.toList++(Rows.OpenSpec.upto Rows.partedSpec).bare.plain.varTypes Tryz.prog).any (Tryz.prog.ifacesRec ·)))=true:=ax
def tabFact15:((Rows.partedUptoRow.mapsOut==Tryz.prog.mapsAmong Tryz.f3.resultTypes.toList))=true:=ax
def tabFact16:((Rows.partedUptoRow.loops==(Tryz.f3.params.toList++(Rows.OpenSpec.upto Rows.partedSpec).bare.plain.varTypes Tryz.prog).any (Tryz.prog.loopsFrom ·)))=true:=ax
def tabFact17:((Rows.partedUptoRow.wideKeys==(Tryz.f3.params.toList++(Rows.OpenSpec.upto Rows.partedSpec).bare.plain.varTypes Tryz.prog++Tryz.f3.resultTypes.toList).any (Tryz.prog.wideKeysFrom ·)))=true:=ax
def tabFact18:((Rows.OpenSpec.upto Rows.partedSpec).bare.vars.all (Tryz.prog.varReadable ·))=true:=ax
def tabFact19:(Tryz.f3.resultTypes.all (fun t=>Tryz.prog.readableRec t&&decide (t<Tryz.prog.types.size)))=true:=ax
def tabFact20:((Rows.partedUptoRow.ifacesOut==Tryz.f3.resultTypes.toList.any (Tryz.prog.ifacesRec ·)))=true:=ax
def tabFact21:((Rows.partedUptoRow.loopsOut==Tryz.f3.resultTypes.toList.any (Tryz.prog.loopsFrom ·)))=true:=ax
def tabFact22:((Rows.partedUptoRow.plainKeys==Tryz.prog.plainKeys))=true:=ax
def tabFact23:(Rows.partedUptoRow.shortTexts.isNone)=true:=ax
def tabFact24:(Tryz.prog.stopsHeard)=true:=ax
def tabFact25:(Tryz.prog.mayEnter)=true:=ax
def tabFact26:((Rows.partedUptoRow.lifted==Tryz.prog.liftsFinal))=true:=ax
def tabFact27:((Tryz.prog.make==some Rows.partedUptoRow.make))=true:=ax
def tabFact28:((Rows.partedUptoRow.kinds==(if Rows.partedUptoRow.domain.isEmpty then [] else Tryz.f3.params.toList.map fun t=>match Tryz.prog.underlying t with | some (.int k)=>some k | _=>none)))=true:=ax
def tabFact29:((Rows.partedUptoRow.pinned==Rows.partedUptoRow.pinnedBy))=true:=ax
def tabFact30:((Rows.partedUptoRow.veiled==(Tryz.f3.params.toList++(Rows.OpenSpec.upto Rows.partedSpec).bare.plain.varTypes Tryz.prog++Tryz.f3.resultTypes.toList).any (Tryz.prog.veiledRec ·)))=true:=ax
def tabFact31:(Rows.partedUptoRow.veiledFits Tryz.prog Tryz.f3.params.toList (Tryz.f3.params.toList++(Rows.OpenSpec.upto Rows.partedSpec).bare.plain.varTypes Tryz.prog++Tryz.f3.resultTypes.toList))=true:=ax
def tabFact9:((Rows.partedUptoRow.inPlace==Tryz.prog.inPlace 3))=true:=ax
def tabFact10:((Rows.partedUptoRow.unfollowed==Tryz.prog.unfollowed 3))=true:=ax
def tabFact11:((Rows.partedUptoRow.recurses==Tryz.prog.recurses 3))=true:=ax
def tabFact12:((Rows.partedUptoRow.named==Tryz.prog.varsNamed 3))=true:=ax
