import Derived.Test.YtjebdgbpopolkaaGreatDoorM00
import Derived.Test.YtjebdgbpopolkaaGreatDoorRows
import Derived.WalkKit
import Derived.ProofKit
set_option maxHeartbeats 0
set_option maxRecDepth 100000
set_option linter.all false
namespace Go.Proofs.YtjebdgbpopolkaaGreatDoor
open Go.ChangeShapes Go.WideShapes Go.ChangeAt Go.RowKit
def tabFact0:(Rows.hiddenUptoRow.wf (OpenSpec.ofChange (Rows.OpenSpec.upto Rows.hiddenSpec).bare))=true:=ax
def tabFact1:(laidOutB Tryz.prog)=true:=ax
def tabFact2:(mapsRowed Tryz.prog)=true:=ax
def tabFact3:(Tryz.f4.params.all (Tryz.prog.readableRec ·))=true:=ax
def tabFact4:(namedTie Tryz.prog Rows.hiddenUptoRow.named (Rows.OpenSpec.upto Rows.hiddenSpec).bare.vars)=true:=ax
def tabFact5:((Rows.hiddenUptoRow.stops==[]))=true:=ax
def tabFact6:((Tryz.prog.stops==[]))=true:=ax
def tabFact7:((Rows.hiddenUptoRow.knobs==[]))=true:=ax
def tabFact8:((Tryz.prog.stopKnobs==[]))=true:=ax
def tabFact13:((Rows.hiddenUptoRow.maps==(Tryz.f4.params.toList++(Rows.OpenSpec.upto Rows.hiddenSpec).bare.plain.varTypes Tryz.prog).any (Tryz.prog.mapsRec ·)))=true:=ax
def tabFact14:((Rows.hiddenUptoRow.ifaces==(Tryz.f4.params.toList++(Rows.OpenSpec.upto Rows.hiddenSpec).bare.plain.varTypes Tryz.prog).any (Tryz.prog.ifacesRec ·)))=true:=ax
def tabFact15:((Rows.hiddenUptoRow.mapsOut==Tryz.prog.mapsAmong Tryz.f4.resultTypes.toList))=true:=ax
def tabFact16:((Rows.hiddenUptoRow.loops==(Tryz.f4.params.toList++(Rows.OpenSpec.upto Rows.hiddenSpec).bare.plain.varTypes Tryz.prog).any (Tryz.prog.loopsFrom ·)))=true:=ax
def tabFact17:((Rows.hiddenUptoRow.wideKeys==(Tryz.f4.params.toList++(Rows.OpenSpec.upto Rows.hiddenSpec).bare.plain.varTypes Tryz.prog++Tryz.f4.resultTypes.toList).any (Tryz.prog.wideKeysFrom ·)))=true:=ax
def tabFact18:((Rows.OpenSpec.upto Rows.hiddenSpec).bare.vars.all (Tryz.prog.varReadable ·))=true:=ax
def tabFact19:(Tryz.f4.resultTypes.all (fun t=>Tryz.prog.readableRec t&&decide (t<Tryz.prog.types.size)))=true:=ax
def tabFact20:((Rows.hiddenUptoRow.ifacesOut==Tryz.f4.resultTypes.toList.any (Tryz.prog.ifacesRec ·)))=true:=ax
def tabFact21:((Rows.hiddenUptoRow.loopsOut==Tryz.f4.resultTypes.toList.any (Tryz.prog.loopsFrom ·)))=true:=ax
def tabFact22:((Rows.hiddenUptoRow.plainKeys==Tryz.prog.plainKeys))=true:=ax
def tabFact23:(Rows.hiddenUptoRow.shortTexts.isNone)=true:=ax
def tabFact24:(Tryz.prog.stopsHeard)=true:=ax
def tabFact25:(Tryz.prog.mayEnter)=true:=ax
def tabFact26:((Rows.hiddenUptoRow.lifted==Tryz.prog.liftsFinal))=true:=ax
def tabFact27:((Tryz.prog.make==some Rows.hiddenUptoRow.make))=true:=ax
def tabFact28:((Rows.hiddenUptoRow.kinds==(if Rows.hiddenUptoRow.domain.isEmpty then [] else Tryz.f4.params.toList.map fun t=>match Tryz.prog.underlying t with | some (.int k)=>some k | _=>none)))=true:=ax
def tabFact29:((Rows.hiddenUptoRow.pinned==Rows.hiddenUptoRow.pinnedBy))=true:=ax
def tabFact30:((Rows.hiddenUptoRow.veiled==(Tryz.f4.params.toList++(Rows.OpenSpec.upto Rows.hiddenSpec).bare.plain.varTypes Tryz.prog++Tryz.f4.resultTypes.toList).any (Tryz.prog.veiledRec ·)))=true:=ax
def tabFact31:(Rows.hiddenUptoRow.veiledFits Tryz.prog Tryz.f4.params.toList (Tryz.f4.params.toList++(Rows.OpenSpec.upto Rows.hiddenSpec).bare.plain.varTypes Tryz.prog++Tryz.f4.resultTypes.toList))=true:=ax
def tabFact9:((Rows.hiddenUptoRow.inPlace==Tryz.prog.inPlace 4))=true:=ax
def tabFact10:((Rows.hiddenUptoRow.unfollowed==Tryz.prog.unfollowed 4))=true:=ax
def tabFact11:((Rows.hiddenUptoRow.recurses==Tryz.prog.recurses 4))=true:=ax
def tabFact12:((Rows.hiddenUptoRow.named==Tryz.prog.varsNamed 4))=true:=ax
