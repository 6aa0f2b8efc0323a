/- Towards the law of tables: Y4. -/
import Derived.Test.YtbkeflgafjnefaaGreatDoorM42
namespace Go.Proofs.YtbkeflgafjnefaaGreatDoor
open Go.ChangeShapes Go.WideShapes Go.ChangeAt Go.RowKit
set_option maxRecDepth 100000
theorem tabFact0 : (Rows.tablesUptoRow.wf (OpenSpec.ofChange (Rows.OpenSpec.upto Rows.tablesSpec).bare)) = true := by kernel_rfl
theorem tabFact1 : (laidOutB Tryz.prog) = true := by kernel_rfl
theorem tabFact2 : (mapsRowed Tryz.prog) = true := by kernel_rfl
theorem tabFact3 : (Tryz.f3.params.all (Tryz.prog.readableRec ·)) = true := by kernel_rfl
theorem tabFact4 : (namedTie Tryz.prog Rows.tablesUptoRow.named (Rows.OpenSpec.upto Rows.tablesSpec).bare.vars) = true := by kernel_rfl
theorem tabFact5 : ((Rows.tablesUptoRow.stops == [])) = true := by kernel_rfl
theorem tabFact6 : ((Tryz.prog.stops == [])) = true := by kernel_rfl
theorem tabFact7 : ((Rows.tablesUptoRow.knobs == [])) = true := by kernel_rfl
theorem tabFact8 : ((Tryz.prog.stopKnobs == [])) = true := by kernel_rfl
theorem tabFact13 : ((Rows.tablesUptoRow.maps == (Tryz.f3.params.toList ++ (Rows.OpenSpec.upto Rows.tablesSpec).bare.plain.varTypes Tryz.prog).any (Tryz.prog.mapsRec ·))) = true := by kernel_rfl
theorem tabFact14 : ((Rows.tablesUptoRow.ifaces == (Tryz.f3.params.toList ++ (Rows.OpenSpec.upto Rows.tablesSpec).bare.plain.varTypes Tryz.prog).any (Tryz.prog.ifacesRec ·))) = true := by kernel_rfl
theorem tabFact15 : ((Rows.tablesUptoRow.mapsOut == Tryz.prog.mapsAmong Tryz.f3.resultTypes.toList)) = true := by kernel_rfl
theorem tabFact16 : ((Rows.tablesUptoRow.loops == (Tryz.f3.params.toList ++ (Rows.OpenSpec.upto Rows.tablesSpec).bare.plain.varTypes Tryz.prog).any (Tryz.prog.loopsFrom ·))) = true := by kernel_rfl
theorem tabFact17 : ((Rows.tablesUptoRow.wideKeys == (Tryz.f3.params.toList ++ (Rows.OpenSpec.upto Rows.tablesSpec).bare.plain.varTypes Tryz.prog ++ Tryz.f3.resultTypes.toList).any (Tryz.prog.wideKeysFrom ·))) = true := by kernel_rfl
theorem tabFact18 : ((Rows.OpenSpec.upto Rows.tablesSpec).bare.vars.all (Tryz.prog.varReadable ·)) = true := by kernel_rfl
theorem tabFact19 : (Tryz.f3.resultTypes.all (fun t => Tryz.prog.readableRec t && decide (t < Tryz.prog.types.size))) = true := by kernel_rfl
theorem tabFact20 : ((Rows.tablesUptoRow.ifacesOut == Tryz.f3.resultTypes.toList.any (Tryz.prog.ifacesRec ·))) = true := by kernel_rfl
theorem tabFact21 : ((Rows.tablesUptoRow.loopsOut == Tryz.f3.resultTypes.toList.any (Tryz.prog.loopsFrom ·))) = true := by kernel_rfl
theorem tabFact22 : ((Rows.tablesUptoRow.plainKeys == Tryz.prog.plainKeys)) = true := by kernel_rfl
theorem tabFact23 : (Rows.tablesUptoRow.shortTexts.isNone) = true := by kernel_rfl
theorem tabFact24 : (Tryz.prog.stopsHeard) = true := by kernel_rfl
theorem tabFact25 : (Tryz.prog.mayEnter) = true := by kernel_rfl
theorem tabFact26 : ((Rows.tablesUptoRow.lifted == Tryz.prog.liftsFinal)) = true := by kernel_rfl
theorem tabFact27 : ((Tryz.prog.make == some Rows.tablesUptoRow.make)) = true := by kernel_rfl
theorem tabFact28 : ((Rows.tablesUptoRow.kinds == (if Rows.tablesUptoRow.domain.isEmpty then [] else Tryz.f3.params.toList.map fun t => match Tryz.prog.underlying t with | some (.int k) => some k | _ => none))) = true := by kernel_rfl
theorem tabFact29 : ((Rows.tablesUptoRow.pinned == Rows.tablesUptoRow.pinnedBy)) = true := by kernel_rfl
theorem tabFact30 : ((Rows.tablesUptoRow.veiled == (Tryz.f3.params.toList ++ (Rows.OpenSpec.upto Rows.tablesSpec).bare.plain.varTypes Tryz.prog ++ Tryz.f3.resultTypes.toList).any (Tryz.prog.veiledRec ·))) = true := by kernel_rfl
theorem tabFact31 : (Rows.tablesUptoRow.veiledFits Tryz.prog Tryz.f3.params.toList (Tryz.f3.params.toList ++ (Rows.OpenSpec.upto Rows.tablesSpec).bare.plain.varTypes Tryz.prog ++ Tryz.f3.resultTypes.toList)) = true := by kernel_rfl
end Go.Proofs.YtbkeflgafjnefaaGreatDoor
