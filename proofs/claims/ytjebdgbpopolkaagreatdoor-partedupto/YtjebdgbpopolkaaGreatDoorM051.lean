/- Parted (tribunekeep): for all items and raw numbers the law answers true: of a condition and its negation no row answers both, and the rows of the two are as many as those of "the condition or its negation", and no more than the table's. Conditions: the row's own (its laid variables, and its bound on what is read: at most 1,048,576 in all). -/
import Derived.Test.YtjebdgbpopolkaaGreatDoorM049
import Derived.Test.YtjebdgbpopolkaaGreatDoorM050
set_option maxHeartbeats 0
set_option maxRecDepth 100000
set_option linter.all false
namespace Go.Proofs.YtjebdgbpopolkaaGreatDoor
open Go.ChangeShapes Go.WideShapes Go.ChangeAt Go.RowKit
def band{a b:Bool}(ha:a=true)(hb:b=true):(a&&b)=true:=by rw[ha,hb];rfl
def tabFacts:joinedFacts Tryz.prog 3 Tryz.f3 (Rows.OpenSpec.upto Rows.partedSpec).bare Rows.partedUptoRow=true:=by unfold joinedFacts;exact(band (band (band (band (band (band (band (band (band (band (band (band (band (band (band (band (band (band (band (band (band (band (band (band (band (band (band (band (band (band (band tabFact0 tabFact1) tabFact2) tabFact3) tabFact4) tabFact5) tabFact6) tabFact7) tabFact8) tabFact9) tabFact10) tabFact11) tabFact12) tabFact13) tabFact14) tabFact15) tabFact16) tabFact17) tabFact18) tabFact19) tabFact20) tabFact21) tabFact22) tabFact23) tabFact24) tabFact25) tabFact26) tabFact27) tabFact28) tabFact29) tabFact30) tabFact31)
def parted_said:Rows.PartedUptoSaid:=OpenClaim.holds_of_cond 3 Tryz.f3 rfl rfl rfl rfl rfl rfl rfl ⟨rfl,rfl,rfl,rfl,rfl⟩ rfl rfl rfl rfl rfl ax Tryz.func3 tabFacts (of_decide_eq_true ax) (by unfold Func.isWrapper;first | (rw[if_pos (by decide +kernel)];kernel_rfl) | (rw[if_neg (by decide +kernel)];exact⟨rfl,rfl⟩)) (fun os started H enc _ F=>by rw[OpenClaim.pre_eq_preRow];exact parted_lifted os started H enc F)
def cardWf:Rows.partedUptoRow.wfByText (Rows.OpenSpec.upto Rows.partedSpec)=true:=ax
def cardMain:Tryz.prog.mainIs=some (true,"d5f546693bd0a10dba194900092f37c7bfc9e5b586ac4a064c5c6972fcd8fd90".toList):=ax
def cardGoes:false=Rows.partedUptoRow.goesBy Tryz.prog:=ax
theorem partedCardProof:Rows.PartedUptoCardSaid:=Claim7.holds_tied_plain_at .later [] _ _ _ _ parted_said (fun _ h=>by cases h) cardWf (fun _ h=>by cases h) partedUpto_row_tie rfl ⟨rfl,rfl⟩ cardMain rfl parted_plain cardGoes
