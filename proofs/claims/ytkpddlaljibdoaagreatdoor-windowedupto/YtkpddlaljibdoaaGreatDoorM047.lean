import Derived.Test.YtkpddlaljibdoaaGreatDoorM00
import Derived.Test.YtkpddlaljibdoaaGreatDoorRows
import Derived.WalkKit
import Derived.ProofKit
set_option maxHeartbeats 20000000
set_option maxRecDepth 100000
set_option linter.all false
namespace Go.Proofs.YtkpddlaljibdoaaGreatDoor
open Go.ChangeShapes Go.WideShapes Go.ChangeAt Go.RowKit
theorem tabFact0:(Rows.windowedUptoRow.wf (OpenSpec.ofChange (Rows.OpenSpec.upto Rows.windowedSpec).bare))=true:=ax
theorem tabFact1:(laidOutB Tryz.prog)=true:=ax
theorem tabFact2:(mapsRowed Tryz.prog)=true:=ax
theorem tabFact3:(Tryz.f4.params.all (Tryz.prog.readableRec ·))=true:=ax
theorem tabFact4:(namedTie Tryz.prog Rows.windowedUptoRow.named (Rows.OpenSpec.upto Rows.windowedSpec).bare.vars)=true:=ax
theorem tabFact5:((Rows.windowedUptoRow.stops==[]))=true:=ax
theorem tabFact6:((Tryz.prog.stops==[]))=true:=ax
theorem tabFact7:((Rows.windowedUptoRow.knobs==[]))=true:=ax
theorem tabFact8:((Tryz.prog.stopKnobs==[]))=true:=ax
theorem tabFact13:((Rows.windowedUptoRow.maps==(Tryz.f4.params.toList++(Rows.OpenSpec.upto Rows.windowedSpec).bare.plain.varTypes Tryz.prog).any (Tryz.prog.mapsRec ·)))=true:=ax
theorem tabFact14:((Rows.windowedUptoRow.ifaces==(Tryz.f4.params.toList++(Rows.OpenSpec.upto Rows.windowedSpec).bare.plain.varTypes Tryz.prog).any (Tryz.prog.ifacesRec ·)))=true:=ax
theorem tabFact15:((Rows.windowedUptoRow.mapsOut==Tryz.prog.mapsAmong Tryz.f4.resultTypes.toList))=true:=ax
theorem tabFact16:((Rows.windowedUptoRow.loops==(Tryz.f4.params.toList++(Rows.OpenSpec.upto Rows.windowedSpec).bare.plain.varTypes Tryz.prog).any (Tryz.prog.loopsFrom ·)))=true:=ax
theorem tabFact17:((Rows.windowedUptoRow.wideKeys==(Tryz.f4.params.toList++(Rows.OpenSpec.upto Rows.windowedSpec).bare.plain.varTypes Tryz.prog++Tryz.f4.resultTypes.toList).any (Tryz.prog.wideKeysFrom ·)))=true:=ax
theorem tabFact18:((Rows.OpenSpec.upto Rows.windowedSpec).bare.vars.all (Tryz.prog.varReadable ·))=true:=ax
theorem tabFact19:(Tryz.f4.resultTypes.all (fun t=>Tryz.prog.readableRec t&&decide (t<Tryz.prog.types.size)))=true:=ax
theorem tabFact20:((Rows.windowedUptoRow.ifacesOut==Tryz.f4.resultTypes.toList.any (Tryz.prog.ifacesRec ·)))=true:=ax
theorem tabFact21:((Rows.windowedUptoRow.loopsOut==Tryz.f4.resultTypes.toList.any (Tryz.prog.loopsFrom ·)))=true:=ax
theorem tabFact22:((Rows.windowedUptoRow.plainKeys==Tryz.prog.plainKeys))=true:=ax
theorem tabFact23:(Rows.windowedUptoRow.shortTexts.isNone)=true:=ax
theorem tabFact24:(Tryz.prog.stopsHeard)=true:=ax
theorem tabFact25:(Tryz.prog.mayEnter)=true:=ax
theorem tabFact26:((Rows.windowedUptoRow.lifted==Tryz.prog.liftsFinal))=true:=ax
theorem tabFact27:((Tryz.prog.make==some Rows.windowedUptoRow.make))=true:=ax
theorem tabFact28:((Rows.windowedUptoRow.kinds==(if Rows.windowedUptoRow.domain.isEmpty then [] else Tryz.f4.params.toList.map fun t=>match Tryz.prog.underlying t with | some (.int k)=>some k | _=>none)))=true:=ax
theorem tabFact29:((Rows.windowedUptoRow.pinned==Rows.windowedUptoRow.pinnedBy))=true:=ax
theorem tabFact30:((Rows.windowedUptoRow.veiled==(Tryz.f4.params.toList++(Rows.OpenSpec.upto Rows.windowedSpec).bare.plain.varTypes Tryz.prog++Tryz.f4.resultTypes.toList).any (Tryz.prog.veiledRec ·)))=true:=ax
theorem tabFact31:(Rows.windowedUptoRow.veiledFits Tryz.prog Tryz.f4.params.toList (Tryz.f4.params.toList++(Rows.OpenSpec.upto Rows.windowedSpec).bare.plain.varTypes Tryz.prog++Tryz.f4.resultTypes.toList))=true:=ax
theorem tabFact9:((Rows.windowedUptoRow.inPlace==Tryz.prog.inPlace 4))=true:=ax
theorem tabFact10:((Rows.windowedUptoRow.unfollowed==Tryz.prog.unfollowed 4))=true:=ax
theorem tabFact11:((Rows.windowedUptoRow.recurses==Tryz.prog.recurses 4))=true:=ax
theorem tabFact12:((Rows.windowedUptoRow.named==Tryz.prog.varsNamed 4))=true:=ax
end Go.Proofs.YtkpddlaljibdoaaGreatDoor
