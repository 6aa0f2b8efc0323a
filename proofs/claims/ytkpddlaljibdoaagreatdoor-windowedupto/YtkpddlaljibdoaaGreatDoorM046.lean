import Derived.Test.YtkpddlaljibdoaaGreatDoorM045
import Derived.Test.YtkpddlaljibdoaaGreatDoorCards
import Derived.Test.YtkpddlaljibdoaaGreatDoorTie
import Derived.ProofKit
set_option maxHeartbeats 20000000
set_option maxRecDepth 100000
set_option linter.all false
namespace Go.Proofs.YtkpddlaljibdoaaGreatDoor
open Go.ChangeShapes Go.WideShapes Go.ChangeAt Go.RowKit
theorem ownKnobNone:ownKnob Tryz.prog.godebug=none:=ax
theorem laidOutTrue:laidOutB Tryz.prog=true:=ax
theorem windowed_contract(H:Type)(enc:TypeId×Value->H)(W:World)(base:Nat)(args:Array Value)(ds gs:List (DataW H))(before:List MemPlace)(hval:∀(j:Nat) t v,Tryz.f4.params[j]?=some t->args[j]?=some v->Value.okWide Tryz.prog W .any base t v)(hW:DataW.Whole enc Tryz.prog Tryz.f4.params.toList Rows.windowedSpec.vars false W args.toList ds gs before)(hk:Rows.uptoSmall H (ds++gs)=true)(hL:laidMetH Tryz.prog Rows.windowedUptoRow.laid W)(hS:W.ShapedOpen Tryz.prog):Calls Tryz.prog 4 args W fun e W'=>∃v,e=.returned v/\Rows.windowedSpec.post enc Tryz.prog Tryz.f4 false true false false W args v W':=by
 have hW':=hW;obtain⟨p,U,hA0,hV,rfl,hfz,hnd⟩:=hW;have hA:DataW.TrodAll enc Tryz.prog W 0 (fun _=>true) true Tryz.f4.params.toList args.toList ds p:=hA0;rw[Tryz.params4] at hA hval;obtain⟨v0,vs0,d0,ds0,p0,q0,hargs,rfl,rfl,h0,r0⟩:=trodAll_cons hA;obtain⟨v1,vs1,d1,ds1,p1,q1,hargs1,rfl,rfl,h1,cX⟩:=trodAll_cons r0;obtain⟨v2,vs2,d2,ds2,p2,q2,hargs2,rfl,rfl,h2,cA⟩:=trodAll_cons cX;obtain⟨v3,vs3,d3,ds3,p3,q3,hargs3,rfl,rfl,h3,r3⟩:=trodAll_cons cA;obtain⟨rfl,rfl,rfl⟩:=trodAll_nil r3;subst hargs3;subst hargs2;subst hargs1;obtain rfl:args=#[v0,v1,v2,v3]:=by cases args;simp_all
 obtain⟨rfl,rfl⟩:=trodVars_none hV;clear hA0;simp only[List.append_nil] at hW';have hb:Rows.uptoBulk d0+Rows.uptoBulk d1+Rows.uptoBulk d2+Rows.uptoBulk d3<=1048576:=by have:=of_decide_eq_true hk;simp[Rows.uptoBulkAll] at this;omega
 obtain⟨f0,h0'⟩:=h0;obtain⟨s0,rfl⟩:=okWide_int Tryz.underlying3 (hval 0 3 v0 rfl rfl);obtain⟨s',hc0,hd0,wf0⟩:=DataW.trod_int Tryz.underlying3 h0';obtain rfl:s0=s':=by simpa [Value.cells] using hc0
 have hr:=wf_i64 wf0;obtain⟨f1,h1'⟩:=h1;obtain⟨s1,rfl⟩:=okWide_int Tryz.underlying3 (hval 1 3 v1 rfl rfl);obtain⟨s',hc1,hd1,wf1⟩:=DataW.trod_int Tryz.underlying3 h1';obtain rfl:s1=s':=by simpa [Value.cells] using hc1
 have cN:=wf_i64 wf1;obtain⟨os2,hos2⟩:=open_ints (okWide_slice Tryz.underlying38 (hval 2 38 v2 rfl rfl)) h2 r;obtain⟨os3,hos3⟩:=open_bools (okWide_slice Tryz.underlying39 (hval 3 39 v3 rfl rfl)) h3 r;refine(atY s0 s1 os2 v2 os3 v3 W (ground_of hL hS) hr.1 hr.2 cN.1 cN.2 hos2 hos3).mono fun e W' ⟨he,hg⟩=>?_;subst he;have hlt:∀x∈p0++(p1++(p2++p3)),x.block<W.heap.size:=fun x hx=>by simpa using hW'.lt x hx
 exact⟨_,rfl,_,_,_,[],p0++(p1++(p2++p3)),[],hW',trodAll_mk1 (shut_bool Tryz.underlying4 _),trodAll_mk4 (Below.trod laidOutTrue ax (of_decide_eq_true ax) ⟨f0,h0'⟩ hg fun x hx=>hlt x (List.mem_append_left _ hx)) (Below.trod laidOutTrue ax (of_decide_eq_true ax) ⟨f1,h1'⟩ hg fun x hx=>hlt x (List.mem_append_right _ (List.mem_append_left _ hx))) (Below.trod laidOutTrue ax (of_decide_eq_true ax) h2 hg fun x hx=>hlt x (List.mem_append_right _ (List.mem_append_right _ (List.mem_append_left _ hx)))) (Below.trod laidOutTrue ax (of_decide_eq_true ax) h3 hg fun x hx=>hlt x (List.mem_append_right _ (List.mem_append_right _ (List.mem_append_right _ hx)))),rfl,hg.frame _,fun h=>by cases h⟩
def cellOf:DataW Unit->Value
 | .lit (.int k n)=>.int k n
 | .lit (.string l)=>.string ⟨l.toArray⟩
 | _=>.bool false
def cellsOfD:DataW Unit->List Value
 | .agg l=>l.map cellOf
 | aq=>[cellOf aq]
def cellsOfDD:DataW Unit->List Value
 | .agg l=>l.flatMap cellsOfD
 | aq=>[cellOf aq]
def layAt(g:Nat)(cs:List Value)(h:Array Obj):Array Obj:=h.modify g fun
 | .cells _ t frozen=>.cells cs.toArray t frozen
 | o=>o
def laidHeap(h:Array Obj):Array Obj:=layAt 6 (cellsOfDD Rows.laid_math_bits_deBruijn32tab) (layAt 7 (cellsOfDD Rows.laid_math_bits_deBruijn64tab) (layAt 2 (cellsOfDD Rows.laid_internal_strconv_uint64pow10) (layAt 4 (cellsOfDD Rows.laid_unicode_utf8_acceptRanges) (layAt 0 (cellsOfDD Rows.laid_tribune_token_keywords) (layAt 5 (cellsOfDD Rows.laid_tribune_query_kinds) (layAt 3 (cellsOfDD Rows.laid_unicode_utf8_first) h))))))
theorem laid_met(os:Os):laidMet Tryz.prog Rows.windowedUptoRow.laid (({World.holding Tryz.prog os ⟨#[],#[],[]⟩ with heap:=laidHeap (World.holding Tryz.prog os ⟨#[],#[],[]⟩).heap}:World).forCall (fun _ _=>0) ⟨#[],#[.int .i64 0,.int .i64 0,.slice none 0 0,.slice none 0 0],[]⟩).memory:=laidMet_of_run' 8 ax ax
theorem windowed_reads(os:Os){H:Type}(enc:TypeId×Value->H):∃places,DataW.whole enc Tryz.prog (({World.holding Tryz.prog os ⟨#[],#[],[]⟩ with heap:=laidHeap (World.holding Tryz.prog os ⟨#[],#[],[]⟩).heap}:World).forCall (fun _ _=>0) ⟨#[],#[.int .i64 0,.int .i64 0,.slice none 0 0,.slice none 0 0],[]⟩).memory Tryz.f4.params.toList Rows.windowedSpec.vars false #[Value.int .i64 0,Value.int .i64 0,Value.slice none 0 0,Value.slice none 0 0].toList 8=some ([.lit (.int .i64 0),.lit (.int .i64 0),.nil,.nil],[],places):=⟨[],ax⟩
theorem windowed_lifted(os:Os)(started:os.Started)(H:Type)(enc:TypeId×Value->H)(F:Stop.Interp):ReturnsInHanded {} Tryz.checked os 4 .any ((Rows.OpenSpec.upto Rows.windowedSpec).preRow enc Tryz.prog Tryz.f4 Rows.windowedUptoRow.domain false Rows.windowedUptoRow.laid) (((Rows.OpenSpec.upto Rows.windowedSpec).at F).post enc Tryz.prog Tryz.f4 false true false false):=by
 obtain⟨places,hx⟩:=windowed_reads os enc;refine returnsInHanded_of_row (C:=Tryz.checked) (s:=Rows.OpenSpec.upto Rows.windowedSpec) ownKnobNone started ax Tryz.func4 (witness_row_at (enc:=enc) (C:=Tryz.checked) false ({World.holding Tryz.prog os ⟨#[],#[],[]⟩ with heap:=laidHeap (World.holding Tryz.prog os ⟨#[],#[],[]⟩).heap}:World) #[.int .i64 0,.int .i64 0,.slice none 0 0,.slice none 0 0] rfl ax ax ax (OpenSpec.preRow_of_cond 8 hx ax (fun k hk=>by cases hk;kernel_rfl) ax (laid_met os))) ?_;intro W base args ds gs before hval hW _ hcond _ hL hS _;exact windowed_contract H enc W base args ds gs before hval hW (hcond _ rfl) hL hS
theorem windowed_plain(f:FuncId)(fn:Func)(hf:Tryz.pinned.checked.prog.funcNamed "tribune/tribunekeep.Windowed" = some f)(hfn:Tryz.pinned.checked.prog.funcs[f]?=some fn):false=Tryz.pinned.checked.prog.looks []/\∀(j:Nat) t,fn.params[j]?=some t->Tryz.pinned.checked.prog.wantsStandIn t=false:=by
 obtain rfl:f=4:=bx ((show Tryz.prog.funcNamed "tribune/tribunekeep.Windowed" = some 4 by kernel_rfl).symm.trans hf) |>.symm;obtain rfl:fn=Tryz.f4:=(bx (Tryz.func4.symm.trans hfn)).symm;refine⟨ax,fun j t ht=>?_⟩;rw[Tryz.params4] at ht;have:t=3\/t=38\/t=39:=by simpa using Array.mem_of_getElem? ht
 rcases this with rfl | rfl | rfl
 ·exact(show Tryz.prog.wantsStandIn 3=false by kernel_rfl)
 ·exact(show Tryz.prog.wantsStandIn 38=false by kernel_rfl)
 ·exact(show Tryz.prog.wantsStandIn 39=false by kernel_rfl)
end Go.Proofs.YtkpddlaljibdoaaGreatDoor
