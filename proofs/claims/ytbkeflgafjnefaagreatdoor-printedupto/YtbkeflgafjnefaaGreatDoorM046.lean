import Derived.Test.YtbkeflgafjnefaaGreatDoorM00
import Derived.Test.YtbkeflgafjnefaaGreatDoorRows
import Derived.WalkKit
import Derived.ProofKit
set_option maxHeartbeats 20000000
set_option maxRecDepth 100000
set_option linter.all false
namespace Go.Proofs.YtbkeflgafjnefaaGreatDoor
open Go.ChangeShapes Go.WideShapes Go.ChangeAt Go.RowKit
theorem tabFact0:(Rows.printedUptoRow.wf (OpenSpec.ofChange (Rows.OpenSpec.upto Rows.printedSpec).bare))=true:=ax
theorem tabFact1:(laidOutB Tryz.prog)=true:=ax
theorem tabFact2:(mapsRowed Tryz.prog)=true:=ax
theorem tabFact3:(Tryz.f5.params.all (Tryz.prog.readableRec ·))=true:=ax
theorem tabFact4:(namedTie Tryz.prog Rows.printedUptoRow.named (Rows.OpenSpec.upto Rows.printedSpec).bare.vars)=true:=ax
theorem tabFact5:((Rows.printedUptoRow.stops==[]))=true:=ax
theorem tabFact6:((Tryz.prog.stops==[]))=true:=ax
theorem tabFact7:((Rows.printedUptoRow.knobs==[]))=true:=ax
theorem tabFact8:((Tryz.prog.stopKnobs==[]))=true:=ax
theorem tabFact13:((Rows.printedUptoRow.maps==(Tryz.f5.params.toList++(Rows.OpenSpec.upto Rows.printedSpec).bare.plain.varTypes Tryz.prog).any (Tryz.prog.mapsRec ·)))=true:=ax
theorem tabFact14:((Rows.printedUptoRow.ifaces==(Tryz.f5.params.toList++(Rows.OpenSpec.upto Rows.printedSpec).bare.plain.varTypes Tryz.prog).any (Tryz.prog.ifacesRec ·)))=true:=ax
theorem tabFact15:((Rows.printedUptoRow.mapsOut==Tryz.prog.mapsAmong Tryz.f5.resultTypes.toList))=true:=ax
theorem tabFact16:((Rows.printedUptoRow.loops==(Tryz.f5.params.toList++(Rows.OpenSpec.upto Rows.printedSpec).bare.plain.varTypes Tryz.prog).any (Tryz.prog.loopsFrom ·)))=true:=ax
theorem tabFact17:((Rows.printedUptoRow.wideKeys==(Tryz.f5.params.toList++(Rows.OpenSpec.upto Rows.printedSpec).bare.plain.varTypes Tryz.prog++Tryz.f5.resultTypes.toList).any (Tryz.prog.wideKeysFrom ·)))=true:=ax
theorem tabFact18:((Rows.OpenSpec.upto Rows.printedSpec).bare.vars.all (Tryz.prog.varReadable ·))=true:=ax
theorem tabFact19:(Tryz.f5.resultTypes.all (fun t=>Tryz.prog.readableRec t&&decide (t<Tryz.prog.types.size)))=true:=ax
theorem tabFact20:((Rows.printedUptoRow.ifacesOut==Tryz.f5.resultTypes.toList.any (Tryz.prog.ifacesRec ·)))=true:=ax
theorem tabFact21:((Rows.printedUptoRow.loopsOut==Tryz.f5.resultTypes.toList.any (Tryz.prog.loopsFrom ·)))=true:=ax
theorem tabFact22:((Rows.printedUptoRow.plainKeys==Tryz.prog.plainKeys))=true:=ax
theorem tabFact23:(Rows.printedUptoRow.shortTexts.isNone)=true:=ax
theorem tabFact24:(Tryz.prog.stopsHeard)=true:=ax
theorem tabFact25:(Tryz.prog.mayEnter)=true:=ax
theorem tabFact26:((Rows.printedUptoRow.lifted==Tryz.prog.liftsFinal))=true:=ax
theorem tabFact27:((Tryz.prog.make==some Rows.printedUptoRow.make))=true:=ax
theorem tabFact28:((Rows.printedUptoRow.kinds==(if Rows.printedUptoRow.domain.isEmpty then [] else Tryz.f5.params.toList.map fun t=>match Tryz.prog.underlying t with | some (.int k)=>some k | _=>none)))=true:=ax
theorem tabFact29:((Rows.printedUptoRow.pinned==Rows.printedUptoRow.pinnedBy))=true:=ax
theorem tabFact30:((Rows.printedUptoRow.veiled==(Tryz.f5.params.toList++(Rows.OpenSpec.upto Rows.printedSpec).bare.plain.varTypes Tryz.prog++Tryz.f5.resultTypes.toList).any (Tryz.prog.veiledRec ·)))=true:=ax
theorem tabFact31:(Rows.printedUptoRow.veiledFits Tryz.prog Tryz.f5.params.toList (Tryz.f5.params.toList++(Rows.OpenSpec.upto Rows.printedSpec).bare.plain.varTypes Tryz.prog++Tryz.f5.resultTypes.toList))=true:=ax
theorem tabFact9:((Rows.printedUptoRow.inPlace==Tryz.prog.inPlace 5))=true:=ax
theorem tabFact10:((Rows.printedUptoRow.unfollowed==Tryz.prog.unfollowed 5))=true:=ax
theorem tabFact11:((Rows.printedUptoRow.recurses==Tryz.prog.recurses 5))=true:=ax
theorem tabFact12:((Rows.printedUptoRow.named==Tryz.prog.varsNamed 5))=true:=ax
end Go.Proofs.YtbkeflgafjnefaaGreatDoor
