import Derived.Test.YtbkeflgafjnefaaGreatDoorM00
import Derived.Test.YtbkeflgafjnefaaGreatDoorRows
import Derived.WalkKit
import Derived.ProofKit
set_option maxHeartbeats 20000000
set_option maxRecDepth 100000
set_option linter.all false
namespace Go.Proofs.YtbkeflgafjnefaaGreatDoor
open Go.ChangeShapes Go.WideShapes Go.ChangeAt Go.RowKit
theorem tabFact0:(Rows.summedUptoRow.wf (OpenSpec.ofChange (Rows.OpenSpec.upto Rows.summedSpec).bare))=true:=ax
theorem tabFact1:(laidOutB Tryz.prog)=true:=ax
theorem tabFact2:(mapsRowed Tryz.prog)=true:=ax
theorem tabFact3:(Tryz.f8.params.all (Tryz.prog.readableRec ·))=true:=ax
theorem tabFact4:(namedTie Tryz.prog Rows.summedUptoRow.named (Rows.OpenSpec.upto Rows.summedSpec).bare.vars)=true:=ax
theorem tabFact5:((Rows.summedUptoRow.stops==[]))=true:=ax
theorem tabFact6:((Tryz.prog.stops==[]))=true:=ax
theorem tabFact7:((Rows.summedUptoRow.knobs==[]))=true:=ax
theorem tabFact8:((Tryz.prog.stopKnobs==[]))=true:=ax
theorem tabFact13:((Rows.summedUptoRow.maps==(Tryz.f8.params.toList++(Rows.OpenSpec.upto Rows.summedSpec).bare.plain.varTypes Tryz.prog).any (Tryz.prog.mapsRec ·)))=true:=ax
theorem tabFact14:((Rows.summedUptoRow.ifaces==(Tryz.f8.params.toList++(Rows.OpenSpec.upto Rows.summedSpec).bare.plain.varTypes Tryz.prog).any (Tryz.prog.ifacesRec ·)))=true:=ax
theorem tabFact15:((Rows.summedUptoRow.mapsOut==Tryz.prog.mapsAmong Tryz.f8.resultTypes.toList))=true:=ax
theorem tabFact16:((Rows.summedUptoRow.loops==(Tryz.f8.params.toList++(Rows.OpenSpec.upto Rows.summedSpec).bare.plain.varTypes Tryz.prog).any (Tryz.prog.loopsFrom ·)))=true:=ax
theorem tabFact17:((Rows.summedUptoRow.wideKeys==(Tryz.f8.params.toList++(Rows.OpenSpec.upto Rows.summedSpec).bare.plain.varTypes Tryz.prog++Tryz.f8.resultTypes.toList).any (Tryz.prog.wideKeysFrom ·)))=true:=ax
theorem tabFact18:((Rows.OpenSpec.upto Rows.summedSpec).bare.vars.all (Tryz.prog.varReadable ·))=true:=ax
theorem tabFact19:(Tryz.f8.resultTypes.all (fun t=>Tryz.prog.readableRec t&&decide (t<Tryz.prog.types.size)))=true:=ax
theorem tabFact20:((Rows.summedUptoRow.ifacesOut==Tryz.f8.resultTypes.toList.any (Tryz.prog.ifacesRec ·)))=true:=ax
theorem tabFact21:((Rows.summedUptoRow.loopsOut==Tryz.f8.resultTypes.toList.any (Tryz.prog.loopsFrom ·)))=true:=ax
theorem tabFact22:((Rows.summedUptoRow.plainKeys==Tryz.prog.plainKeys))=true:=ax
theorem tabFact23:(Rows.summedUptoRow.shortTexts.isNone)=true:=ax
theorem tabFact24:(Tryz.prog.stopsHeard)=true:=ax
theorem tabFact25:(Tryz.prog.mayEnter)=true:=ax
theorem tabFact26:((Rows.summedUptoRow.lifted==Tryz.prog.liftsFinal))=true:=ax
theorem tabFact27:((Tryz.prog.make==some Rows.summedUptoRow.make))=true:=ax
theorem tabFact28:((Rows.summedUptoRow.kinds==(if Rows.summedUptoRow.domain.isEmpty then [] else Tryz.f8.params.toList.map fun t=>match Tryz.prog.underlying t with | some (.int k)=>some k | _=>none)))=true:=ax
theorem tabFact29:((Rows.summedUptoRow.pinned==Rows.summedUptoRow.pinnedBy))=true:=ax
theorem tabFact30:((Rows.summedUptoRow.veiled==(Tryz.f8.params.toList++(Rows.OpenSpec.upto Rows.summedSpec).bare.plain.varTypes Tryz.prog++Tryz.f8.resultTypes.toList).any (Tryz.prog.veiledRec ·)))=true:=ax
theorem tabFact31:(Rows.summedUptoRow.veiledFits Tryz.prog Tryz.f8.params.toList (Tryz.f8.params.toList++(Rows.OpenSpec.upto Rows.summedSpec).bare.plain.varTypes Tryz.prog++Tryz.f8.resultTypes.toList))=true:=ax
theorem tabFact9:((Rows.summedUptoRow.inPlace==Tryz.prog.inPlace 8))=true:=ax
theorem tabFact10:((Rows.summedUptoRow.unfollowed==Tryz.prog.unfollowed 8))=true:=ax
theorem tabFact11:((Rows.summedUptoRow.recurses==Tryz.prog.recurses 8))=true:=ax
theorem tabFact12:((Rows.summedUptoRow.named==Tryz.prog.varsNamed 8))=true:=ax
end Go.Proofs.YtbkeflgafjnefaaGreatDoor
