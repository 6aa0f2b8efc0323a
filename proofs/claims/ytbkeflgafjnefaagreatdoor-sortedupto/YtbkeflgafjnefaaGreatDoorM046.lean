import Derived.Test.YtbkeflgafjnefaaGreatDoorM00
import Derived.Test.YtbkeflgafjnefaaGreatDoorRows
import Derived.WalkKit
import Derived.ProofKit
set_option maxHeartbeats 20000000
set_option maxRecDepth 100000
set_option linter.all false
namespace Go.Proofs.YtbkeflgafjnefaaGreatDoor
open Go.ChangeShapes Go.WideShapes Go.ChangeAt Go.RowKit
theorem tabFact0:(Rows.sortedUptoRow.wf (OpenSpec.ofChange (Rows.OpenSpec.upto Rows.sortedSpec).bare))=true:=ax
theorem tabFact1:(laidOutB Tryz.prog)=true:=ax
theorem tabFact2:(mapsRowed Tryz.prog)=true:=ax
theorem tabFact3:(Tryz.f7.params.all (Tryz.prog.readableRec ·))=true:=ax
theorem tabFact4:(namedTie Tryz.prog Rows.sortedUptoRow.named (Rows.OpenSpec.upto Rows.sortedSpec).bare.vars)=true:=ax
theorem tabFact5:((Rows.sortedUptoRow.stops==[]))=true:=ax
theorem tabFact6:((Tryz.prog.stops==[]))=true:=ax
theorem tabFact7:((Rows.sortedUptoRow.knobs==[]))=true:=ax
theorem tabFact8:((Tryz.prog.stopKnobs==[]))=true:=ax
theorem tabFact13:((Rows.sortedUptoRow.maps==(Tryz.f7.params.toList++(Rows.OpenSpec.upto Rows.sortedSpec).bare.plain.varTypes Tryz.prog).any (Tryz.prog.mapsRec ·)))=true:=ax
theorem tabFact14:((Rows.sortedUptoRow.ifaces==(Tryz.f7.params.toList++(Rows.OpenSpec.upto Rows.sortedSpec).bare.plain.varTypes Tryz.prog).any (Tryz.prog.ifacesRec ·)))=true:=ax
theorem tabFact15:((Rows.sortedUptoRow.mapsOut==Tryz.prog.mapsAmong Tryz.f7.resultTypes.toList))=true:=ax
theorem tabFact16:((Rows.sortedUptoRow.loops==(Tryz.f7.params.toList++(Rows.OpenSpec.upto Rows.sortedSpec).bare.plain.varTypes Tryz.prog).any (Tryz.prog.loopsFrom ·)))=true:=ax
theorem tabFact17:((Rows.sortedUptoRow.wideKeys==(Tryz.f7.params.toList++(Rows.OpenSpec.upto Rows.sortedSpec).bare.plain.varTypes Tryz.prog++Tryz.f7.resultTypes.toList).any (Tryz.prog.wideKeysFrom ·)))=true:=ax
theorem tabFact18:((Rows.OpenSpec.upto Rows.sortedSpec).bare.vars.all (Tryz.prog.varReadable ·))=true:=ax
theorem tabFact19:(Tryz.f7.resultTypes.all (fun t=>Tryz.prog.readableRec t&&decide (t<Tryz.prog.types.size)))=true:=ax
theorem tabFact20:((Rows.sortedUptoRow.ifacesOut==Tryz.f7.resultTypes.toList.any (Tryz.prog.ifacesRec ·)))=true:=ax
theorem tabFact21:((Rows.sortedUptoRow.loopsOut==Tryz.f7.resultTypes.toList.any (Tryz.prog.loopsFrom ·)))=true:=ax
theorem tabFact22:((Rows.sortedUptoRow.plainKeys==Tryz.prog.plainKeys))=true:=ax
theorem tabFact23:(Rows.sortedUptoRow.shortTexts.isNone)=true:=ax
theorem tabFact24:(Tryz.prog.stopsHeard)=true:=ax
theorem tabFact25:(Tryz.prog.mayEnter)=true:=ax
theorem tabFact26:((Rows.sortedUptoRow.lifted==Tryz.prog.liftsFinal))=true:=ax
theorem tabFact27:((Tryz.prog.make==some Rows.sortedUptoRow.make))=true:=ax
theorem tabFact28:((Rows.sortedUptoRow.kinds==(if Rows.sortedUptoRow.domain.isEmpty then [] else Tryz.f7.params.toList.map fun t=>match Tryz.prog.underlying t with | some (.int k)=>some k | _=>none)))=true:=ax
theorem tabFact29:((Rows.sortedUptoRow.pinned==Rows.sortedUptoRow.pinnedBy))=true:=ax
theorem tabFact30:((Rows.sortedUptoRow.veiled==(Tryz.f7.params.toList++(Rows.OpenSpec.upto Rows.sortedSpec).bare.plain.varTypes Tryz.prog++Tryz.f7.resultTypes.toList).any (Tryz.prog.veiledRec ·)))=true:=ax
theorem tabFact31:(Rows.sortedUptoRow.veiledFits Tryz.prog Tryz.f7.params.toList (Tryz.f7.params.toList++(Rows.OpenSpec.upto Rows.sortedSpec).bare.plain.varTypes Tryz.prog++Tryz.f7.resultTypes.toList))=true:=ax
theorem tabFact9:((Rows.sortedUptoRow.inPlace==Tryz.prog.inPlace 7))=true:=ax
theorem tabFact10:((Rows.sortedUptoRow.unfollowed==Tryz.prog.unfollowed 7))=true:=ax
theorem tabFact11:((Rows.sortedUptoRow.recurses==Tryz.prog.recurses 7))=true:=ax
theorem tabFact12:((Rows.sortedUptoRow.named==Tryz.prog.varsNamed 7))=true:=ax
end Go.Proofs.YtbkeflgafjnefaaGreatDoor
