import Derived.Test.YtkpddlaljibdoaaGreatDoorM046
import Derived.Test.YtkpddlaljibdoaaGreatDoorM047
set_option maxHeartbeats 20000000
set_option maxRecDepth 100000
set_option linter.all false
namespace Go.Proofs.YtkpddlaljibdoaaGreatDoor
open Go.ChangeShapes Go.WideShapes Go.ChangeAt Go.RowKit
theorem band{a b:Bool}(ha:a=true)(hb:b=true):(a&&b)=true:=by rw[ha,hb];rfl
theorem tabFacts:joinedFacts Tryz.prog 4 Tryz.f4 (Rows.OpenSpec.upto Rows.windowedSpec).bare Rows.windowedUptoRow=true:=by unfold joinedFacts;exact(band (band (band (band (band (band (band (band (band (band (band (band (band (band (band (band (band (band (band (band (band (band (band (band (band (band (band (band (band (band (band tabFact0 tabFact1) tabFact2) tabFact3) tabFact4) tabFact5) tabFact6) tabFact7) tabFact8) tabFact9) tabFact10) tabFact11) tabFact12) tabFact13) tabFact14) tabFact15) tabFact16) tabFact17) tabFact18) tabFact19) tabFact20) tabFact21) tabFact22) tabFact23) tabFact24) tabFact25) tabFact26) tabFact27) tabFact28) tabFact29) tabFact30) tabFact31)
theorem windowed_said:Rows.WindowedUptoSaid:=OpenClaim.holds_of_cond 4 Tryz.f4 rfl rfl rfl rfl rfl rfl rfl ⟨rfl,rfl,rfl,rfl,rfl⟩ rfl rfl rfl rfl rfl ax Tryz.func4 tabFacts (of_decide_eq_true ax) (by unfold Func.isWrapper;first | (rw[if_pos (by decide +kernel)];kernel_rfl) | (rw[if_neg (by decide +kernel)];exact⟨rfl,rfl⟩)) (fun os started H enc _ F=>by rw[OpenClaim.pre_eq_preRow];exact windowed_lifted os started H enc F)
end Go.Proofs.YtkpddlaljibdoaaGreatDoor
