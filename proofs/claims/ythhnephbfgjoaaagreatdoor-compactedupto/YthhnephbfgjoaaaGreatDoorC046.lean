import Derived.Test.YthhnephbfgjoaaaGreatDoorC045
import Derived.Test.YthhnephbfgjoaaaGreatDoorCards
import Derived.Test.YthhnephbfgjoaaaGreatDoorTie
import Derived.ProofKit
set_option maxHeartbeats 0
set_option maxRecDepth 100000
set_option linter.all false
namespace Go.Proofs.YthhnephbfgjoaaaGreatDoor
open ax0
open Go.ChangeShapes Go.WideShapes Go.ChangeAt Go.RowKit
def ownKnobNone:ownKnob Tryz.prog.godebug=none:=ax
def laidOutTrue:laidOutB Tryz.prog=true:=ax
def compacted_contract(H:Type)(enc:TypeId×Value->H)(W:World)(base:Nat)(args:Array Value)(ds gs:List (DataW H))(before:List MemPlace)(hval:∀(j:Nat) t v,Tryz.f3.params[j]?=some t->args[j]?=some v->Value.okWide Tryz.prog W .any base t v)(hW:DataW.Whole enc Tryz.prog Tryz.f3.params.toList Rows.compactedSpec.vars false W args.toList ds gs before)(hk:Rows.uptoSmall H (ds++gs)=true)(hL:laidMetH Tryz.prog Rows.compactedUptoRow.laid W)(hS:W.ShapedOpen Tryz.prog):Calls Tryz.prog 3 args W fun e W'=>∃v,e=.returned v/\Rows.compactedSpec.post enc Tryz.prog Tryz.f3 false true false false W args v W':=by
 have hW':=hW;obtain⟨p,U,hA0,hV,rfl,hfz,hnd⟩:=hW;have hA:DataW.TrodAll enc Tryz.prog W 0 (fun _=>true) true Tryz.f3.params.toList args.toList ds p:=hA0;rw[Tryz.params3] at hA hval;obtain⟨v0,vs0,d0,ds0,p0,q0,hargs,rfl,rfl,h0,r0⟩:=trodAll_cons hA;obtain⟨v1,vs1,d1,ds1,p1,q1,hargs1,rfl,rfl,h1,cX⟩:=trodAll_cons r0;obtain⟨v2,vs2,d2,ds2,p2,q2,hargs2,rfl,rfl,h2,cA⟩:=trodAll_cons cX;obtain⟨rfl,rfl,rfl⟩:=trodAll_nil cA;subst hargs2;subst hargs1;obtain rfl:args=#[v0,v1,v2]:=by cases args;simp_all
 obtain⟨rfl,rfl⟩:=trodVars_none hV;clear hA0;simp only[List.append_nil] at hW';have hb:Rows.uptoBulk d0+Rows.uptoBulk d1+Rows.uptoBulk d2<=1048576:=by have:=of_decide_eq_true hk;simp[Rows.uptoBulkAll] at this;omega
 obtain⟨os0,hos0⟩:=open_items (okWide_slice Tryz.underlying22 (hval 0 22 v0 rfl rfl)) h0 r;obtain⟨os1,hos1⟩:=open_acts (okWide_slice Tryz.underlying23 (hval 1 23 v1 rfl rfl)) h1 r;obtain⟨os2,hos2⟩:=open_bools (okWide_slice Tryz.underlying24 (hval 2 24 v2 rfl rfl)) h2 r;refine(axz os0 v0 os1 v1 os2 v2 W (ground_of hL hS) hos0 hos1 hos2).mono fun e W' ⟨he,hg⟩=>?_;subst he;have hlt:∀x∈p0++(p1++p2),x.block<W.heap.size:=fun x hx=>by simpa using hW'.lt x hx
 exact⟨_,rfl,_,_,_,[],p0++(p1++p2),[],hW',trodAll_mk1 (shut_bool Tryz.underlying4 _),trodAll_mk3 (Below.trod laidOutTrue ax (of_decide_eq_true ax) h0 hg fun x hx=>hlt x (List.mem_append_left _ hx)) (Below.trod laidOutTrue ax (of_decide_eq_true ax) h1 hg fun x hx=>hlt x (List.mem_append_right _ (List.mem_append_left _ hx))) (Below.trod laidOutTrue ax (of_decide_eq_true ax) h2 hg fun x hx=>hlt x (List.mem_append_right _ (List.mem_append_right _ hx))),rfl,hg.frame _,fun h=>by cases h⟩
def cellOf:DataW Unit->Value
 | .lit (.int k n)=>.int k n
 | .lit (.string l)=>.string ⟨l.toArray⟩
 | _=>.bool false
def cellsOfD:DataW Unit->List Value
 | .agg l=>l.map cellOf
 | aq=>[cellOf aq]
def cellsOfDD:DataW Unit->List Value
 | .agg l=>l.flatMap cellsOfD
 | aq=>[cellOf aq]
def layAt(g:Nat)(cs:List Value)(h:Array Obj):Array Obj:=h.modify g fun
 | .cells _ t frozen=>.cells cs.toArray t frozen
 | o=>o
def laidHeap(h:Array Obj):Array Obj:=layAt 6 (cellsOfDD Rows.laid_math_bits_deBruijn32tab) (layAt 7 (cellsOfDD Rows.laid_math_bits_deBruijn64tab) (layAt 4 (cellsOfDD Rows.laid_internal_strconv_uint64pow10) (layAt 3 (cellsOfDD Rows.laid_unicode_utf8_acceptRanges) (layAt 0 (cellsOfDD Rows.laid_tribune_token_keywords) (layAt 5 (cellsOfDD Rows.laid_tribune_query_kinds) (layAt 2 (cellsOfDD Rows.laid_unicode_utf8_first) h))))))
def laid_met(os:Os):laidMet Tryz.prog Rows.compactedUptoRow.laid (({World.holding Tryz.prog os ⟨#[],#[],[]⟩ with heap:=laidHeap (World.holding Tryz.prog os ⟨#[],#[],[]⟩).heap}:World).forCall (fun _ _=>0) ⟨#[],#[.slice none 0 0,.slice none 0 0,.slice none 0 0],[]⟩).memory:=laidMet_of_run' 8 ax ax
def compacted_reads(os:Os){H:Type}(enc:TypeId×Value->H):∃places,DataW.whole enc Tryz.prog (({World.holding Tryz.prog os ⟨#[],#[],[]⟩ with heap:=laidHeap (World.holding Tryz.prog os ⟨#[],#[],[]⟩).heap}:World).forCall (fun _ _=>0) ⟨#[],#[.slice none 0 0,.slice none 0 0,.slice none 0 0],[]⟩).memory Tryz.f3.params.toList Rows.compactedSpec.vars false #[Value.slice none 0 0,Value.slice none 0 0,Value.slice none 0 0].toList 8=some ([.nil,.nil,.nil],[],places):=⟨[],ax⟩
def compacted_lifted(os:Os)(started:os.Started)(H:Type)(enc:TypeId×Value->H)(F:Stop.Interp):ReturnsInHanded {} Tryz.checked os 3 .any ((Rows.OpenSpec.upto Rows.compactedSpec).preRow enc Tryz.prog Tryz.f3 Rows.compactedUptoRow.domain false Rows.compactedUptoRow.laid) (((Rows.OpenSpec.upto Rows.compactedSpec).at F).post enc Tryz.prog Tryz.f3 false true false false):=by
 obtain⟨places,hx⟩:=compacted_reads os enc;refine returnsInHanded_of_row (C:=Tryz.checked) (s:=Rows.OpenSpec.upto Rows.compactedSpec) ownKnobNone started ax Tryz.func3 (witness_row_at (enc:=enc) (C:=Tryz.checked) false ({World.holding Tryz.prog os ⟨#[],#[],[]⟩ with heap:=laidHeap (World.holding Tryz.prog os ⟨#[],#[],[]⟩).heap}:World) #[.slice none 0 0,.slice none 0 0,.slice none 0 0] rfl ax ax ax (OpenSpec.preRow_of_cond 8 hx ax (fun k hk=>by cases hk;kernel_rfl) ax (laid_met os))) ?_;intro W base args ds gs before hval hW _ hcond _ hL hS _;exact compacted_contract H enc W base args ds gs before hval hW (hcond _ rfl) hL hS
def compacted_plain(f:FuncId)(fn:Func)(hf:Tryz.pinned.checked.prog.funcNamed "tribune/tribunekeep.Compacted" = some f)(hfn:Tryz.pinned.checked.prog.funcs[f]?=some fn):false=Tryz.pinned.checked.prog.looks []/\∀(j:Nat) t,fn.params[j]?=some t->Tryz.pinned.checked.prog.wantsStandIn t=false:=by
 obtain rfl:f=3:=bx ((show Tryz.prog.funcNamed "tribune/tribunekeep.Compacted" = some 3 by kernel_rfl).symm.trans hf) |>.symm;obtain rfl:fn=Tryz.f3:=(bx (Tryz.func3.symm.trans hfn)).symm;refine⟨ax,fun j t ht=>?_⟩;rw[Tryz.params3] at ht;have:t=22\/t=23\/t=24:=by simpa using Array.mem_of_getElem? ht
 rcases this with rfl | rfl | rfl
 ·exact(show Tryz.prog.wantsStandIn 22=false by kernel_rfl)
 ·exact(show Tryz.prog.wantsStandIn 23=false by kernel_rfl)
 ·exact(show Tryz.prog.wantsStandIn 24=false by kernel_rfl)
