import Derived.Test.YtjebdgbpopolkaaGreatDoorM048
import Derived.Stop.LaidErr
import Derived.Deep.DeepHandedRow
import Derived.OpenShut
import Derived.Test.YtjebdgbpopolkaaGreatDoorM047
import Derived.Test.YtjebdgbpopolkaaGreatDoorCards
import Derived.Test.YtjebdgbpopolkaaGreatDoorTie
import Derived.ProofKit
set_option maxHeartbeats 0
set_option maxRecDepth 100000
set_option linter.all false
namespace Go.Proofs.YtjebdgbpopolkaaGreatDoor
open Go.RowKit
open Go.ChangeShapes Go.WideShapes Go.Deep
open bS
variable{W:World}
def gKw:Tryz.prog.globalNamed "tribune/token.keywords" = some 0:=ax
def gKwType:(Tryz.prog.globals[0]?).map (·.type)=some 183:=ax
def gKinds:Tryz.prog.globalNamed "tribune/query.kinds" = some 5:=ax
def gKindsType:(Tryz.prog.globals[5]?).map (·.type)=some 349:=ax
def cellsKw:Tryz.prog.cellsOf 183=19:=ax
def cellsKinds:Tryz.prog.cellsOf 349=30:=ax
def cellsKind:Tryz.prog.cellsOf 243=1:=ax
def cells_of_strs{H:Type}{enc:TypeId×Value->H}{P:Program}{w:World}{base:Nat}{sp:Nat->Bool}{held:Bool}{fuel:Nat}{t e:TypeId}{n:Nat}{cs:List Value}{ls:List (List UInt8)}{p:List MemPlace}(ht:P.underlying t=some (.array n e))(he:P.underlying e=some .string)(hce:P.cellsOf e=1)(hct:P.cellsOf t=n)(h:DataW.trod enc P w base sp held fuel t cs=some (.agg (ls.map fun l=>.lit (.string l)),p)):cs=ls.map fun l=>Value.string (a7 l):=by
 cases fuel with
 | zero=>simp[DataW.trod] at h
 | succ fuel=>
  simp only[DataW.trod,ht,hce,hct,Nat.mul_one] at h;split at h
  ·rename_i hl;obtain⟨xs,hm,hx⟩:=Option.map_eq_some_iff.1 h;have hxs:xs.map (·.1)=ls.map fun l=>(DataW.lit (.string l):DataW H):=by have:=congrArg Prod.fst hx;simpa using this
   have hxl:xs.length=n:=by simpa using Lib.mapM_length hm
   have hzl:ls.length=n:=by have:=congrArg List.length hxs;simp at this;omega
   apply List.ext_getElem?;intro i;by_cases hi:i<n
   ·obtain⟨b,hb,hf⟩:=Lib.mapM_at hm i i (by simp[hi]);obtain⟨s,hc,rfl,_⟩:=DataW.trod_string he hf;have h1:cs[i]?=some (.string s):=by have:=congrArg (·[0]?) hc;simpa [List.getElem?_take,List.getElem?_drop] using this
    have h2:(xs.map (·.1))[i]?=some (DataW.lit (.string s.data.toList):DataW H):=by simp[hb]
    rw[hxs] at h2;simp only[List.getElem?_map,Option.map_eq_some_iff,DataW.lit.injEq,Lit.string.injEq] at h2;obtain⟨l,hz',rfl⟩:=h2;rw[h1,List.getElem?_map,hz'];simp[a7]
   ·rw[List.getElem?_eq_none r,List.getElem?_eq_none (by simp;omega)]
  ·cases h
def kws_of_head{rest:List (String×DataW Unit)}(h:laidMet Tryz.prog (("tribune/token.keywords",.agg (nm.map fun l=>.lit (.string l)))::rest) W):W.rangeAt 0 0 kY:=by
 obtain⟨ps,⟨g',t',cs,fuel,p,U,hg',ht',hvar,hd,_,_⟩,_⟩:=h;obtain rfl:=bx (gKw.symm.trans hg');obtain rfl:=bx (gKwType.symm.trans ht');have e:=cells_of_strs Tryz.underlying183 Tryz.underlying9 cells9 cellsKw hd;intro j v hv;have hc:=World.var?_cell gKw hvar j;have:cs[j]?=some v:=by rw[<-Array.getElem?_toList,e];exact hv
 rw[this] at hc;rw[ax1];exact hc
def gP:Tryz.prog.globalNamed "internal/strconv.uint64pow10" = some 2:=ax
def gPType:(Tryz.prog.globals[2]?).map (·.type)=some 337:=ax
def cellsP:Tryz.prog.cellsOf 337=20:=ax
def cellsU:Tryz.prog.cellsOf 220=1:=ax
def ground_of(h:laidMetH Tryz.prog Rows.partedUptoRow.laid W)(hs:W.ShapedOpen Tryz.prog):Ground W:=by
 have h0:laidMet Tryz.prog Rows.partedUptoRow.laid W:=h;have h2:=laidMet.tail (laidMet.tail h0);have h4:=laidMet.tail (laidMet.tail h2);have h5:=laidMet.tail h4;have k2:Lib.TabIs Tryz.prog W "internal/strconv.uint64pow10" .u64 Lib.pow10Tab:=Lib.tabIs_of_head gP gPType Tryz.underlying337 Tryz.underlying220 cellsU cellsP h2;have k4:W.rangeAt 0 0 kY:=kws_of_head h4;have k5:Lib.TabIs Tryz.prog W "tribune/query.kinds" .i64 (md.map fun n:Nat=>(n:Int)):=Lib.tabIs_of_head gKinds gKindsType Tryz.underlying349 Tryz.underlying243 cellsKind cellsKinds h5;have hm:=cell_of_shapedOpen_int (g:=1) (t:=3) (zero:=#[q 0]) (k:=.i64) hs (of_decide_eq_true ax) ax rfl ax ax Tryz.underlying3;refine⟨⟨k4,fun i hi=>?_,hm,?_⟩,k2⟩
 ·have:=k5.cell gKinds i (by simpa [md] using hi);refine this.trans ?_;congr 2;rw[List.getD_eq_getElem?_getD,List.getElem?_map,List.getD_eq_getElem?_getD];cases md[i]?<;>rfl
 ·have h7:(((begin Tryz.prog (fun _ _=>0) default).world.heap[7]?).bind Obj.row?).isSome=true:=ax;obtain⟨⟨zero,t⟩,h7⟩:=Option.isSome_iff_exists.1 h7;obtain⟨cs,hh,_,_⟩:=hs.1 7 zero t (of_decide_eq_true ax) h7;have:=(br hh).1;omega
open Go.ChangeAt
def ownKnobNone:ownKnob Tryz.prog.godebug=none:=ax
def laidOutTrue:laidOutB Tryz.prog=true:=ax
def parted_contract(H:Type)(enc:TypeId×Value->H)(W:World)(base:Nat)(args:Array Value)(ds gs:List (DataW H))(before:List MemPlace)(hval:∀(j:Nat) t v,Tryz.f3.params[j]?=some t->args[j]?=some v->Value.okWide Tryz.prog W .any base t v)(hW:DataW.Whole enc Tryz.prog Tryz.f3.params.toList Rows.partedSpec.vars false W args.toList ds gs before)(hk:Rows.uptoSmall H (ds++gs)=true)(hL:laidMetH Tryz.prog Rows.partedUptoRow.laid W)(hS:W.ShapedOpen Tryz.prog):Calls Tryz.prog 3 args W fun e W'=>∃v,e=.returned v/\Rows.partedSpec.post enc Tryz.prog Tryz.f3 false true false false W args v W':=by
 have hW':=hW;obtain⟨p,U,hA0,hV,rfl,hfz,hnd⟩:=hW;have hA:DataW.TrodAll enc Tryz.prog W 0 (fun _=>true) true Tryz.f3.params.toList args.toList ds p:=hA0;rw[Tryz.params3] at hA hval;obtain⟨v0,vs0,d0,ds0,p0,q0,hargs,rfl,rfl,h0,r0⟩:=trodAll_cons hA;obtain⟨v1,vs1,d1,ds1,p1,q1,hargs1,rfl,rfl,h1,cX⟩:=trodAll_cons r0;obtain⟨rfl,rfl,rfl⟩:=trodAll_nil cX;subst hargs1;obtain rfl:args=#[v0,v1]:=by cases args;simp_all
 obtain⟨rfl,rfl⟩:=trodVars_none hV;clear hA0;simp only[List.append_nil] at hW';have hb:Rows.uptoBulk d0+Rows.uptoBulk d1<=1048576:=by have:=of_decide_eq_true hk;simp[Rows.uptoBulkAll] at this;omega
 obtain⟨os0,hos0⟩:=open_items (okWide_slice Tryz.underlying22 (hval 0 22 v0 rfl rfl)) h0 r;obtain⟨os1,hos1⟩:=open_raws (okWide_slice Tryz.underlying23 (hval 1 23 v1 rfl rfl)) h1 r;refine(azL os0 v0 os1 v1 W (ground_of hL hS) hos0 hos1).mono fun e W' ⟨he,hg⟩=>?_;subst he;have hlt:∀x∈p0++p1,x.block<W.heap.size:=fun x hx=>by simpa using hW'.lt x hx
 exact⟨_,rfl,_,_,_,[],p0++p1,[],hW',trodAll_mk1 (shut_bool Tryz.underlying4 _),trodAll_mk2 (Below.trod laidOutTrue ax (of_decide_eq_true ax) h0 hg fun x hx=>hlt x (List.mem_append_left _ hx)) (Below.trod laidOutTrue ax (of_decide_eq_true ax) h1 hg fun x hx=>hlt x (List.mem_append_right _ hx)),rfl,hg.frame _,fun h=>by cases h⟩
def cellOf:DataW Unit->Value
 | .lit (.int k n)=>.int k n
 | .lit (.string l)=>.string ⟨l.toArray⟩
 | _=>.bool false
def cellsOfD:DataW Unit->List Value
 | .agg l=>l.map cellOf
 | aq=>[cellOf aq]
def cellsOfDD:DataW Unit->List Value
 | .agg l=>l.flatMap cellsOfD
 | aq=>[cellOf aq]
def layAt(g:Nat)(cs:List Value)(h:Array Obj):Array Obj:=h.modify g fun
 | .cells _ t frozen=>.cells cs.toArray t frozen
 | o=>o
def laidHeap(h:Array Obj):Array Obj:=layAt 6 (cellsOfDD Rows.laid_math_bits_deBruijn32tab) (layAt 7 (cellsOfDD Rows.laid_math_bits_deBruijn64tab) (layAt 2 (cellsOfDD Rows.laid_internal_strconv_uint64pow10) (layAt 4 (cellsOfDD Rows.laid_unicode_utf8_acceptRanges) (layAt 0 (cellsOfDD Rows.laid_tribune_token_keywords) (layAt 5 (cellsOfDD Rows.laid_tribune_query_kinds) (layAt 3 (cellsOfDD Rows.laid_unicode_utf8_first) h))))))
def laid_met(os:Os):laidMet Tryz.prog Rows.partedUptoRow.laid (({World.holding Tryz.prog os ⟨#[],#[],[]⟩ with heap:=laidHeap (World.holding Tryz.prog os ⟨#[],#[],[]⟩).heap}:World).forCall (fun _ _=>0) ⟨#[],#[.slice none 0 0,.slice none 0 0],[]⟩).memory:=laidMet_of_run' 8 ax ax
def parted_reads(os:Os){H:Type}(enc:TypeId×Value->H):∃places,DataW.whole enc Tryz.prog (({World.holding Tryz.prog os ⟨#[],#[],[]⟩ with heap:=laidHeap (World.holding Tryz.prog os ⟨#[],#[],[]⟩).heap}:World).forCall (fun _ _=>0) ⟨#[],#[.slice none 0 0,.slice none 0 0],[]⟩).memory Tryz.f3.params.toList Rows.partedSpec.vars false #[Value.slice none 0 0,Value.slice none 0 0].toList 8=some ([.nil,.nil],[],places):=⟨[],ax⟩
def parted_lifted(os:Os)(started:os.Started)(H:Type)(enc:TypeId×Value->H)(F:Stop.Interp):ReturnsInHanded {} Tryz.checked os 3 .any ((Rows.OpenSpec.upto Rows.partedSpec).preRow enc Tryz.prog Tryz.f3 Rows.partedUptoRow.domain false Rows.partedUptoRow.laid) (((Rows.OpenSpec.upto Rows.partedSpec).at F).post enc Tryz.prog Tryz.f3 false true false false):=by
 obtain⟨places,hx⟩:=parted_reads os enc;refine returnsInHanded_of_row (C:=Tryz.checked) (s:=Rows.OpenSpec.upto Rows.partedSpec) ownKnobNone started ax Tryz.func3 (witness_row_at (enc:=enc) (C:=Tryz.checked) false ({World.holding Tryz.prog os ⟨#[],#[],[]⟩ with heap:=laidHeap (World.holding Tryz.prog os ⟨#[],#[],[]⟩).heap}:World) #[.slice none 0 0,.slice none 0 0] rfl ax ax ax (OpenSpec.preRow_of_cond 8 hx ax (fun k hk=>by cases hk;kernel_rfl) ax (laid_met os))) ?_;intro W base args ds gs before hval hW _ hcond _ hL hS _;exact parted_contract H enc W base args ds gs before hval hW (hcond _ rfl) hL hS
def parted_plain(f:FuncId)(fn:Func)(hf:Tryz.pinned.checked.prog.funcNamed "tribune/tribunekeep.Parted" = some f)(hfn:Tryz.pinned.checked.prog.funcs[f]?=some fn):false=Tryz.pinned.checked.prog.looks []/\∀(j:Nat) t,fn.params[j]?=some t->Tryz.pinned.checked.prog.wantsStandIn t=false:=by
 obtain rfl:f=3:=bx ((show Tryz.prog.funcNamed "tribune/tribunekeep.Parted" = some 3 by kernel_rfl).symm.trans hf) |>.symm;obtain rfl:fn=Tryz.f3:=(bx (Tryz.func3.symm.trans hfn)).symm;refine⟨ax,fun j t ht=>?_⟩;rw[Tryz.params3] at ht;have:t=22\/t=23:=by simpa using Array.mem_of_getElem? ht
 rcases this with rfl | rfl
 ·exact(show Tryz.prog.wantsStandIn 22=false by kernel_rfl)
 ·exact(show Tryz.prog.wantsStandIn 23=false by kernel_rfl)
