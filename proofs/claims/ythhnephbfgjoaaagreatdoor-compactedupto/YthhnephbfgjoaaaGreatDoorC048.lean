import Derived.Test.YthhnephbfgjoaaaGreatDoorC046
import Derived.Test.YthhnephbfgjoaaaGreatDoorC047
set_option maxHeartbeats 0
set_option maxRecDepth 100000
set_option linter.all false
namespace Go.Proofs.YthhnephbfgjoaaaGreatDoor
open ax0
open Go.ChangeShapes Go.WideShapes Go.ChangeAt Go.RowKit
def band{a b:Bool}(ha:a=true)(hb:b=true):(a&&b)=true:=by rw[ha,hb];rfl
def tabFacts:joinedFacts Tryz.prog 3 Tryz.f3 (Rows.OpenSpec.upto Rows.compactedSpec).bare Rows.compactedUptoRow=true:=by unfold joinedFacts;exact(band (band (band (band (band (band (band (band (band (band (band (band (band (band (band (band (band (band (band (band (band (band (band (band (band (band (band (band (band (band (band tabFact0 tabFact1) tabFact2) tabFact3) tabFact4) tabFact5) tabFact6) tabFact7) tabFact8) tabFact9) tabFact10) tabFact11) tabFact12) tabFact13) tabFact14) tabFact15) tabFact16) tabFact17) tabFact18) tabFact19) tabFact20) tabFact21) tabFact22) tabFact23) tabFact24) tabFact25) tabFact26) tabFact27) tabFact28) tabFact29) tabFact30) tabFact31)
def compacted_said:Rows.CompactedUptoSaid:=OpenClaim.holds_of_cond 3 Tryz.f3 rfl rfl rfl rfl rfl rfl rfl ⟨rfl,rfl,rfl,rfl,rfl⟩ rfl rfl rfl rfl rfl ax Tryz.func3 tabFacts (of_decide_eq_true ax) (by unfold Func.isWrapper;first | (rw[if_pos (by decide +kernel)];kernel_rfl) | (rw[if_neg (by decide +kernel)];exact⟨rfl,rfl⟩)) (fun os started H enc _ F=>by rw[OpenClaim.pre_eq_preRow];exact compacted_lifted os started H enc F)
