import Derived.Test.YtbkeflgafjnefaaGreatDoorM044
import Derived.Test.YtbkeflgafjnefaaGreatDoorCards
import Derived.Test.YtbkeflgafjnefaaGreatDoorTie
import Derived.ProofKit
set_option maxHeartbeats 20000000
set_option maxRecDepth 100000
set_option linter.all false
namespace Go.Proofs.YtbkeflgafjnefaaGreatDoor
open Go.ChangeShapes Go.WideShapes Go.ChangeAt Go.RowKit
theorem ownKnobNone:ownKnob Tryz.prog.godebug=none:=ax
theorem laidOutTrue:laidOutB Tryz.prog=true:=ax
theorem sorted_contract(H:Type)(enc:TypeId×Value->H)(W:World)(base:Nat)(args:Array Value)(ds gs:List (DataW H))(before:List MemPlace)(hval:∀(j:Nat) t v,Tryz.f7.params[j]?=some t->args[j]?=some v->Value.okWide Tryz.prog W .any base t v)(hW:DataW.Whole enc Tryz.prog Tryz.f7.params.toList Rows.sortedSpec.vars false W args.toList ds gs before)(hk:Rows.uptoSmall H (ds++gs)=true)(hL:laidMetH Tryz.prog Rows.sortedUptoRow.laid W)(hS:W.ShapedOpen Tryz.prog):Calls Tryz.prog 7 args W fun e W'=>∃v,e=.returned v/\Rows.sortedSpec.post enc Tryz.prog Tryz.f7 false true false false W args v W':=by
 have hW':=hW;obtain⟨p,U,hA0,hV,rfl,hfz,hnd⟩:=hW;have hA:DataW.TrodAll enc Tryz.prog W 0 (fun _=>true) true Tryz.f7.params.toList args.toList ds p:=hA0;rw[Tryz.params7] at hA hval;obtain⟨v0,vs0,d0,ds0,p0,q0,hargs,rfl,rfl,h0,r0⟩:=trodAll_cons hA;obtain⟨v1,vs1,d1,ds1,p1,q1,hargs1,rfl,rfl,h1,r1⟩:=trodAll_cons r0;obtain⟨rfl,rfl,rfl⟩:=trodAll_nil r1;subst hargs1;obtain rfl:args=#[v0,v1]:=by cases args;simp_all
 obtain⟨rfl,rfl⟩:=trodVars_none hV;clear hA0;simp only[List.append_nil] at hW';have hb:Rows.uptoBulk d0+Rows.uptoBulk d1<=1048576:=by have:=of_decide_eq_true hk;simpa [Rows.uptoBulkAll] using this
 obtain⟨os0,hos0⟩:=open_items (okWide_slice Tryz.underlying25 (hval 0 25 v0 rfl rfl)) h0 r;obtain⟨f1,h1'⟩:=h1;obtain⟨s1,rfl⟩:=okWide_int Tryz.underlying3 (hval 1 3 v1 rfl rfl);obtain⟨s',hc1,hd1,wf1⟩:=DataW.trod_int Tryz.underlying3 h1';obtain rfl:s1=s':=by simpa [Value.cells] using hc1
 have cN:=wf_i64 wf1;refine(JN os0 v0 s1 W (ground_of hL hS) hos0 cN.1 cN.2).mono fun e W' ⟨he,hg⟩=>?_;subst he;have hlt:∀x∈p0++p1,x.block<W.heap.size:=fun x hx=>by simpa using hW'.lt x hx
 exact⟨_,rfl,_,_,_,[],p0++p1,[],hW',trodAll_mk1 (shut_bool Tryz.underlying4 _),trodAll_mk2 (Below.trod laidOutTrue ax (of_decide_eq_true ax) h0 hg fun x hx=>hlt x (List.mem_append_left _ hx)) (Below.trod laidOutTrue ax (of_decide_eq_true ax) ⟨f1,h1'⟩ hg fun x hx=>hlt x (List.mem_append_right _ hx)),rfl,hg.frame _,fun h=>by cases h⟩
def cellOf:DataW Unit->Value
 | .lit (.int k n)=>.int k n
 | .lit (.string l)=>.string ⟨l.toArray⟩
 | _=>.bool false
def cellsOfD:DataW Unit->List Value
 | .agg l=>l.map cellOf
 | aq=>[cellOf aq]
def cellsOfDD:DataW Unit->List Value
 | .agg l=>l.flatMap cellsOfD
 | aq=>[cellOf aq]
def layAt(g:Nat)(cs:List Value)(h:Array Obj):Array Obj:=h.modify g fun
 | .cells _ t frozen=>.cells cs.toArray t frozen
 | o=>o
def laidHeap(h:Array Obj):Array Obj:=layAt 6 (cellsOfDD Rows.laid_math_bits_deBruijn32tab) (layAt 7 (cellsOfDD Rows.laid_math_bits_deBruijn64tab) (layAt 3 (cellsOfDD Rows.laid_internal_strconv_uint64pow10) (layAt 5 (cellsOfDD Rows.laid_unicode_utf8_acceptRanges) (layAt 0 (cellsOfDD Rows.laid_tribune_token_keywords) (layAt 2 (cellsOfDD Rows.laid_tribune_query_kinds) (layAt 4 (cellsOfDD Rows.laid_unicode_utf8_first) h))))))
theorem laid_met(os:Os):laidMet Tryz.prog Rows.sortedUptoRow.laid (({World.holding Tryz.prog os ⟨#[],#[],[]⟩ with heap:=laidHeap (World.holding Tryz.prog os ⟨#[],#[],[]⟩).heap}:World).forCall (fun _ _=>0) ⟨#[],#[.slice none 0 0,.int .i64 0],[]⟩).memory:=laidMet_of_run' 8 ax ax
theorem sorted_reads(os:Os){H:Type}(enc:TypeId×Value->H):∃places,DataW.whole enc Tryz.prog (({World.holding Tryz.prog os ⟨#[],#[],[]⟩ with heap:=laidHeap (World.holding Tryz.prog os ⟨#[],#[],[]⟩).heap}:World).forCall (fun _ _=>0) ⟨#[],#[.slice none 0 0,.int .i64 0],[]⟩).memory Tryz.f7.params.toList Rows.sortedSpec.vars false #[Value.slice none 0 0,Value.int .i64 0].toList 8=some ([.nil,.lit (.int .i64 0)],[],places):=⟨[],ax⟩
theorem sorted_lifted(os:Os)(started:os.Started)(H:Type)(enc:TypeId×Value->H)(F:Stop.Interp):ReturnsInHanded {} Tryz.checked os 7 .any ((Rows.OpenSpec.upto Rows.sortedSpec).preRow enc Tryz.prog Tryz.f7 Rows.sortedUptoRow.domain false Rows.sortedUptoRow.laid) (((Rows.OpenSpec.upto Rows.sortedSpec).at F).post enc Tryz.prog Tryz.f7 false true false false):=by
 obtain⟨places,hx⟩:=sorted_reads os enc;refine returnsInHanded_of_row (C:=Tryz.checked) (s:=Rows.OpenSpec.upto Rows.sortedSpec) ownKnobNone started ax Tryz.func7 (witness_row_at (enc:=enc) (C:=Tryz.checked) false ({World.holding Tryz.prog os ⟨#[],#[],[]⟩ with heap:=laidHeap (World.holding Tryz.prog os ⟨#[],#[],[]⟩).heap}:World) #[.slice none 0 0,.int .i64 0] rfl ax ax ax (OpenSpec.preRow_of_cond 8 hx ax (fun k hk=>by cases hk;kernel_rfl) ax (laid_met os))) ?_;intro W base args ds gs before hval hW _ hcond _ hL hS _;exact sorted_contract H enc W base args ds gs before hval hW (hcond _ rfl) hL hS
theorem sorted_plain(f:FuncId)(fn:Func)(hf:Tryz.pinned.checked.prog.funcNamed "tribune/tribunekeep.Sorted" = some f)(hfn:Tryz.pinned.checked.prog.funcs[f]?=some fn):false=Tryz.pinned.checked.prog.looks []/\∀(j:Nat) t,fn.params[j]?=some t->Tryz.pinned.checked.prog.wantsStandIn t=false:=by
 obtain rfl:f=7:=bx ((show Tryz.prog.funcNamed "tribune/tribunekeep.Sorted" = some 7 by kernel_rfl).symm.trans hf) |>.symm;obtain rfl:fn=Tryz.f7:=(bx (Tryz.func7.symm.trans hfn)).symm;refine⟨ax,fun j t ht=>?_⟩;rw[Tryz.params7] at ht;have:t=25\/t=3:=by simpa using Array.mem_of_getElem? ht
 rcases this with rfl | rfl
 ·exact(show Tryz.prog.wantsStandIn 25=false by kernel_rfl)
 ·exact(show Tryz.prog.wantsStandIn 3=false by kernel_rfl)
end Go.Proofs.YtbkeflgafjnefaaGreatDoor
