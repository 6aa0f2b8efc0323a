import Derived.Test.YtkpddlaljibdoaaGreatDoorB00
import Derived.Test.YtkpddlaljibdoaaGreatDoorRows
import Derived.WalkKit
import Derived.ProofKit
set_option maxHeartbeats 20000000
set_option maxRecDepth 100000
set_option linter.all false
namespace Go.Proofs.YtkpddlaljibdoaaGreatDoor
open Go.ChangeShapes Go.WideShapes Go.ChangeAt Go.RowKit
def tabFact0:(Rows.barredUptoRow.wf (OpenSpec.ofChange (Rows.OpenSpec.upto Rows.barredSpec).bare))=true:=ax
def tabFact1:(laidOutB Tryz.prog)=true:=ax
def tabFact2:(mapsRowed Tryz.prog)=true:=ax
def tabFact3:(Tryz.f3.params.all (Tryz.prog.readableRec ·))=true:=ax
def tabFact4:(namedTie Tryz.prog Rows.barredUptoRow.named (Rows.OpenSpec.upto Rows.barredSpec).bare.vars)=true:=ax
def tabFact5:((Rows.barredUptoRow.stops==[]))=true:=ax
def tabFact6:((Tryz.prog.stops==[]))=true:=ax
def tabFact7:((Rows.barredUptoRow.knobs==[]))=true:=ax
def tabFact8:((Tryz.prog.stopKnobs==[]))=true:=ax
def tabFact13:((Rows.barredUptoRow.maps==(Tryz.f3.params.toList++(Rows.OpenSpec.upto Rows.barredSpec).bare.plain.varTypes Tryz.prog).any (Tryz.prog.mapsRec ·)))=true:=ax
def tabFact14:((Rows.barredUptoRow.ifaces==(Tryz.f3.params.toList++(Rows.OpenSpec.upto Rows.barredSpec).bare.plain.varTypes Tryz.prog).any (Tryz.prog.ifacesRec ·)))=true:=ax
def tabFact15:((Rows.barredUptoRow.mapsOut==Tryz.prog.mapsAmong Tryz.f3.resultTypes.toList))=true:=ax
def tabFact16:((Rows.barredUptoRow.loops==(Tryz.f3.params.toList++(Rows.OpenSpec.upto Rows.barredSpec).bare.plain.varTypes Tryz.prog).any (Tryz.prog.loopsFrom ·)))=true:=ax
def tabFact17:((Rows.barredUptoRow.wideKeys==(Tryz.f3.params.toList++(Rows.OpenSpec.upto Rows.barredSpec).bare.plain.varTypes Tryz.prog++Tryz.f3.resultTypes.toList).any (Tryz.prog.wideKeysFrom ·)))=true:=ax
def tabFact18:((Rows.OpenSpec.upto Rows.barredSpec).bare.vars.all (Tryz.prog.varReadable ·))=true:=ax
def tabFact19:(Tryz.f3.resultTypes.all (fun t=>Tryz.prog.readableRec t&&decide (t<Tryz.prog.types.size)))=true:=ax
def tabFact20:((Rows.barredUptoRow.ifacesOut==Tryz.f3.resultTypes.toList.any (Tryz.prog.ifacesRec ·)))=true:=ax
def tabFact21:((Rows.barredUptoRow.loopsOut==Tryz.f3.resultTypes.toList.any (Tryz.prog.loopsFrom ·)))=true:=ax
def tabFact22:((Rows.barredUptoRow.plainKeys==Tryz.prog.plainKeys))=true:=ax
def tabFact23:(Rows.barredUptoRow.shortTexts.isNone)=true:=ax
def tabFact24:(Tryz.prog.stopsHeard)=true:=ax
def tabFact25:(Tryz.prog.mayEnter)=true:=ax
def tabFact26:((Rows.barredUptoRow.lifted==Tryz.prog.liftsFinal))=true:=ax
def tabFact27:((Tryz.prog.make==some Rows.barredUptoRow.make))=true:=ax
def tabFact28:((Rows.barredUptoRow.kinds==(if Rows.barredUptoRow.domain.isEmpty then [] else Tryz.f3.params.toList.map fun t=>match Tryz.prog.underlying t with | some (.int k)=>some k | _=>none)))=true:=ax
def tabFact29:((Rows.barredUptoRow.pinned==Rows.barredUptoRow.pinnedBy))=true:=ax
def tabFact30:((Rows.barredUptoRow.veiled==(Tryz.f3.params.toList++(Rows.OpenSpec.upto Rows.barredSpec).bare.plain.varTypes Tryz.prog++Tryz.f3.resultTypes.toList).any (Tryz.prog.veiledRec ·)))=true:=ax
def tabFact31:(Rows.barredUptoRow.veiledFits Tryz.prog Tryz.f3.params.toList (Tryz.f3.params.toList++(Rows.OpenSpec.upto Rows.barredSpec).bare.plain.varTypes Tryz.prog++Tryz.f3.resultTypes.toList))=true:=ax
def tabFact9:((Rows.barredUptoRow.inPlace==Tryz.prog.inPlace 3))=true:=ax
def tabFact10:((Rows.barredUptoRow.unfollowed==Tryz.prog.unfollowed 3))=true:=ax
def tabFact11:((Rows.barredUptoRow.recurses==Tryz.prog.recurses 3))=true:=ax
def tabFact12:((Rows.barredUptoRow.named==Tryz.prog.varsNamed 3))=true:=ax
