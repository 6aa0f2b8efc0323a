/- Hidden (tribunekeep): for all items, raw numbers and rows the law answers true: under a policy against a row every query whose answer would hold that row is denied whole and by that policy, and every other query is answered as without it. Conditions: the row's own (its laid variables, and its bound on what is read: at most 1,048,576 in all). -/
import Derived.Test.YtjebdgbpopolkaaGreatDoorM055
import Derived.Test.YtjebdgbpopolkaaGreatDoorM056
set_option maxHeartbeats 0
set_option maxRecDepth 100000
set_option linter.all false
namespace Go.Proofs.YtjebdgbpopolkaaGreatDoor
open Go.ChangeShapes Go.WideShapes Go.ChangeAt Go.RowKit
def band{a b:Bool}(ha:a=true)(hb:b=true):(a&&b)=true:=by rw[ha,hb];rfl
def tabFacts:joinedFacts Tryz.prog 4 Tryz.f4 (Rows.OpenSpec.upto Rows.hiddenSpec).bare Rows.hiddenUptoRow=true:=by unfold joinedFacts;exact(band (band (band (band (band (band (band (band (band (band (band (band (band (band (band (band (band (band (band (band (band (band (band (band (band (band (band (band (band (band (band tabFact0 tabFact1) tabFact2) tabFact3) tabFact4) tabFact5) tabFact6) tabFact7) tabFact8) tabFact9) tabFact10) tabFact11) tabFact12) tabFact13) tabFact14) tabFact15) tabFact16) tabFact17) tabFact18) tabFact19) tabFact20) tabFact21) tabFact22) tabFact23) tabFact24) tabFact25) tabFact26) tabFact27) tabFact28) tabFact29) tabFact30) tabFact31)
def hidden_said:Rows.HiddenUptoSaid:=OpenClaim.holds_of_cond 4 Tryz.f4 rfl rfl rfl rfl rfl rfl rfl ⟨rfl,rfl,rfl,rfl,rfl⟩ rfl rfl rfl rfl rfl ax Tryz.func4 tabFacts (of_decide_eq_true ax) (by unfold Func.isWrapper;first | (rw[if_pos (by decide +kernel)];kernel_rfl) | (rw[if_neg (by decide +kernel)];exact⟨rfl,rfl⟩)) (fun os started H enc _ F=>by rw[OpenClaim.pre_eq_preRow];exact hidden_lifted os started H enc F)
def cardWf:Rows.hiddenUptoRow.wfByText (Rows.OpenSpec.upto Rows.hiddenSpec)=true:=ax
def cardMain:Tryz.prog.mainIs=some (true,"d5f546693bd0a10dba194900092f37c7bfc9e5b586ac4a064c5c6972fcd8fd90".toList):=ax
def cardGoes:false=Rows.hiddenUptoRow.goesBy Tryz.prog:=ax
theorem hiddenCardProof:Rows.HiddenUptoCardSaid:=Claim7.holds_tied_plain_at .later [] _ _ _ _ hidden_said (fun _ h=>by cases h) cardWf (fun _ h=>by cases h) hiddenUpto_row_tie rfl ⟨rfl,rfl⟩ cardMain rfl hidden_plain cardGoes
