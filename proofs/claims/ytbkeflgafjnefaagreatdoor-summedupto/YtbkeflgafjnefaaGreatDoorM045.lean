import Derived.Test.YtbkeflgafjnefaaGreatDoorM044
import Derived.Test.YtbkeflgafjnefaaGreatDoorCards
import Derived.Test.YtbkeflgafjnefaaGreatDoorTie
import Derived.ProofKit
set_option maxHeartbeats 20000000
set_option maxRecDepth 100000
set_option linter.all false
namespace Go.Proofs.YtbkeflgafjnefaaGreatDoor
open Go.ChangeShapes Go.WideShapes Go.ChangeAt Go.RowKit
theorem ownKnobNone:ownKnob Tryz.prog.godebug=none:=ax
theorem laidOutTrue:laidOutB Tryz.prog=true:=ax
theorem summed_contract(H:Type)(enc:TypeId×Value->H)(W:World)(base:Nat)(args:Array Value)(ds gs:List (DataW H))(before:List MemPlace)(hval:∀(j:Nat) t v,Tryz.f8.params[j]?=some t->args[j]?=some v->Value.okWide Tryz.prog W .any base t v)(hW:DataW.Whole enc Tryz.prog Tryz.f8.params.toList Rows.summedSpec.vars false W args.toList ds gs before)(hk:Rows.uptoSmall H (ds++gs)=true)(hL:laidMetH Tryz.prog Rows.summedUptoRow.laid W)(hS:W.ShapedOpen Tryz.prog):Calls Tryz.prog 8 args W fun e W'=>∃v,e=.returned v/\Rows.summedSpec.post enc Tryz.prog Tryz.f8 false true false false W args v W':=by
 have hW':=hW;obtain⟨p,U,hA0,hV,rfl,hfz,hnd⟩:=hW;have hA:DataW.TrodAll enc Tryz.prog W 0 (fun _=>true) true Tryz.f8.params.toList args.toList ds p:=hA0;rw[Tryz.params8] at hA hval;obtain⟨v0,vs0,d0,ds0,p0,q0,hargs,rfl,rfl,h0,r0⟩:=trodAll_cons hA;obtain⟨rfl,rfl,rfl⟩:=trodAll_nil r0;obtain rfl:args=#[v0]:=by cases args;simp_all
 obtain⟨rfl,rfl⟩:=trodVars_none hV;clear hA0;simp only[List.append_nil] at hW';have hb:Rows.uptoBulk d0<=1048576:=by have:=of_decide_eq_true hk;simpa [Rows.uptoBulkAll] using this
 obtain⟨os0,hos0⟩:=open_items (okWide_slice Tryz.underlying25 (hval 0 25 v0 rfl rfl)) h0 r;refine(apC os0 v0 W (ground_of hL hS) hos0).mono fun e W' ⟨he,hg⟩=>?_;subst he;have hlt:∀x∈p0,x.block<W.heap.size:=fun x hx=>by simpa using hW'.lt x hx
 exact⟨_,rfl,_,_,_,[],p0,[],hW',trodAll_mk1 (shut_bool Tryz.underlying4 _),trodAll_mk1 (Below.trod laidOutTrue ax (of_decide_eq_true ax) h0 hg fun x hx=>hlt x hx),rfl,hg.frame _,fun h=>by cases h⟩
def cellOf:DataW Unit->Value
 | .lit (.int k n)=>.int k n
 | .lit (.string l)=>.string ⟨l.toArray⟩
 | _=>.bool false
def cellsOfD:DataW Unit->List Value
 | .agg l=>l.map cellOf
 | aq=>[cellOf aq]
def cellsOfDD:DataW Unit->List Value
 | .agg l=>l.flatMap cellsOfD
 | aq=>[cellOf aq]
def layAt(g:Nat)(cs:List Value)(h:Array Obj):Array Obj:=h.modify g fun
 | .cells _ t frozen=>.cells cs.toArray t frozen
 | o=>o
def laidHeap(h:Array Obj):Array Obj:=layAt 6 (cellsOfDD Rows.laid_math_bits_deBruijn32tab) (layAt 7 (cellsOfDD Rows.laid_math_bits_deBruijn64tab) (layAt 3 (cellsOfDD Rows.laid_internal_strconv_uint64pow10) (layAt 5 (cellsOfDD Rows.laid_unicode_utf8_acceptRanges) (layAt 0 (cellsOfDD Rows.laid_tribune_token_keywords) (layAt 2 (cellsOfDD Rows.laid_tribune_query_kinds) (layAt 4 (cellsOfDD Rows.laid_unicode_utf8_first) h))))))
theorem laid_met(os:Os):laidMet Tryz.prog Rows.summedUptoRow.laid (({World.holding Tryz.prog os ⟨#[],#[],[]⟩ with heap:=laidHeap (World.holding Tryz.prog os ⟨#[],#[],[]⟩).heap}:World).forCall (fun _ _=>0) ⟨#[],#[.slice none 0 0],[]⟩).memory:=laidMet_of_run' 8 ax ax
theorem summed_reads(os:Os){H:Type}(enc:TypeId×Value->H):∃places,DataW.whole enc Tryz.prog (({World.holding Tryz.prog os ⟨#[],#[],[]⟩ with heap:=laidHeap (World.holding Tryz.prog os ⟨#[],#[],[]⟩).heap}:World).forCall (fun _ _=>0) ⟨#[],#[.slice none 0 0],[]⟩).memory Tryz.f8.params.toList Rows.summedSpec.vars false #[Value.slice none 0 0].toList 8=some ([.nil],[],places):=⟨[],ax⟩
theorem summed_lifted(os:Os)(started:os.Started)(H:Type)(enc:TypeId×Value->H)(F:Stop.Interp):ReturnsInHanded {} Tryz.checked os 8 .any ((Rows.OpenSpec.upto Rows.summedSpec).preRow enc Tryz.prog Tryz.f8 Rows.summedUptoRow.domain false Rows.summedUptoRow.laid) (((Rows.OpenSpec.upto Rows.summedSpec).at F).post enc Tryz.prog Tryz.f8 false true false false):=by
 obtain⟨places,hx⟩:=summed_reads os enc;refine returnsInHanded_of_row (C:=Tryz.checked) (s:=Rows.OpenSpec.upto Rows.summedSpec) ownKnobNone started ax Tryz.func8 (witness_row_at (enc:=enc) (C:=Tryz.checked) false ({World.holding Tryz.prog os ⟨#[],#[],[]⟩ with heap:=laidHeap (World.holding Tryz.prog os ⟨#[],#[],[]⟩).heap}:World) #[.slice none 0 0] rfl ax ax ax (OpenSpec.preRow_of_cond 8 hx ax (fun k hk=>by cases hk;kernel_rfl) ax (laid_met os))) ?_;intro W base args ds gs before hval hW _ hcond _ hL hS _;exact summed_contract H enc W base args ds gs before hval hW (hcond _ rfl) hL hS
theorem summed_plain(f:FuncId)(fn:Func)(hf:Tryz.pinned.checked.prog.funcNamed "tribune/tribunekeep.Summed" = some f)(hfn:Tryz.pinned.checked.prog.funcs[f]?=some fn):false=Tryz.pinned.checked.prog.looks []/\∀(j:Nat) t,fn.params[j]?=some t->Tryz.pinned.checked.prog.wantsStandIn t=false:=by
 obtain rfl:f=8:=bx ((show Tryz.prog.funcNamed "tribune/tribunekeep.Summed" = some 8 by kernel_rfl).symm.trans hf) |>.symm;obtain rfl:fn=Tryz.f8:=(bx (Tryz.func8.symm.trans hfn)).symm;refine⟨ax,fun j t ht=>?_⟩;rw[Tryz.params8] at ht;have:t=25:=by simpa using Array.mem_of_getElem? ht
 subst this;exact(show Tryz.prog.wantsStandIn 25=false by kernel_rfl)
end Go.Proofs.YtbkeflgafjnefaaGreatDoor
