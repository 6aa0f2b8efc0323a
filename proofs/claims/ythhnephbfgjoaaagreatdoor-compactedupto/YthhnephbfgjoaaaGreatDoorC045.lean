import Derived.Test.YthhnephbfgjoaaaGreatDoorC044
import Derived.Stop.LaidErr
import Derived.Deep.DeepHandedRow
import Derived.OpenShut
set_option maxHeartbeats 0
set_option maxRecDepth 100000
set_option linter.all false
namespace Go.Proofs.YthhnephbfgjoaaaGreatDoor
open ax0
open Go.RowKit
open Go.ChangeShapes Go.WideShapes Go.Deep
open bS
variable{W:World}
def gKw:Tryz.prog.globalNamed "tribune/token.keywords" = some 0:=ax
def gKwType:(Tryz.prog.globals[0]?).map (·.type)=some 158:=ax
def gKinds:Tryz.prog.globalNamed "tribune/query.kinds" = some 5:=ax
def gKindsType:(Tryz.prog.globals[5]?).map (·.type)=some 354:=ax
def cellsKw:Tryz.prog.cellsOf 158=19:=ax
def cellsKinds:Tryz.prog.cellsOf 354=30:=ax
def cellsKind:Tryz.prog.cellsOf 256=1:=ax
def cells_of_strs{H:Type}{enc:TypeId×Value->H}{P:Program}{w:World}{base:Nat}{sp:Nat->Bool}{held:Bool}{fuel:Nat}{t e:TypeId}{n:Nat}{cs:List Value}{ls:List (List UInt8)}{p:List MemPlace}(ht:P.underlying t=some (.array n e))(he:P.underlying e=some .string)(hce:P.cellsOf e=1)(hct:P.cellsOf t=n)(h:DataW.trod enc P w base sp held fuel t cs=some (.agg (ls.map fun l=>.lit (.string l)),p)):cs=ls.map fun l=>Value.string (a7 l):=by
 cases fuel with
 | zero=>simp[DataW.trod] at h
 | succ fuel=>
  simp only[DataW.trod,ht,hce,hct,Nat.mul_one] at h;split at h
  ·rename_i hl;obtain⟨xs,hm,hx⟩:=Option.map_eq_some_iff.1 h;have hxs:xs.map (·.1)=ls.map fun l=>(DataW.lit (.string l):DataW H):=by have:=congrArg Prod.fst hx;simpa using this
   have hxl:xs.length=n:=by simpa using Lib.mapM_length hm
   have hzl:ls.length=n:=by have:=congrArg List.length hxs;simp at this;omega
   apply List.ext_getElem?;intro i;by_cases hi:i<n
   ·obtain⟨b,hb,hf⟩:=Lib.mapM_at hm i i (by simp[hi]);obtain⟨s,hc,rfl,_⟩:=DataW.trod_string he hf;have h1:cs[i]?=some (.string s):=by have:=congrArg (·[0]?) hc;simpa [List.getElem?_take,List.getElem?_drop] using this
    have h2:(xs.map (·.1))[i]?=some (DataW.lit (.string s.data.toList):DataW H):=by simp[hb]
    rw[hxs] at h2;simp only[List.getElem?_map,Option.map_eq_some_iff,DataW.lit.injEq,Lit.string.injEq] at h2;obtain⟨l,hz',rfl⟩:=h2;rw[h1,List.getElem?_map,hz'];simp[a7]
   ·rw[List.getElem?_eq_none r,List.getElem?_eq_none (by simp;omega)]
  ·cases h
def kws_of_head{rest:List (String×DataW Unit)}(h:laidMet Tryz.prog (("tribune/token.keywords",.agg (nm.map fun l=>.lit (.string l)))::rest) W):W.rangeAt 0 0 kY:=by
 obtain⟨ps,⟨g',t',cs,fuel,p,U,hg',ht',hvar,hd,_,_⟩,_⟩:=h;obtain rfl:=bx (gKw.symm.trans hg');obtain rfl:=bx (gKwType.symm.trans ht');have e:=cells_of_strs Tryz.underlying158 Tryz.underlying9 cells9 cellsKw hd;intro j v hv;have hc:=World.var?_cell gKw hvar j;have:cs[j]?=some v:=by rw[<-Array.getElem?_toList,e];exact hv
 rw[this] at hc;rw[ax1];exact hc
def gP:Tryz.prog.globalNamed "internal/strconv.uint64pow10" = some 4:=ax
def gPType:(Tryz.prog.globals[4]?).map (·.type)=some 348:=ax
def cellsP:Tryz.prog.cellsOf 348=20:=ax
def cellsU:Tryz.prog.cellsOf 232=1:=ax
def ground_of(h:laidMetH Tryz.prog Rows.compactedUptoRow.laid W)(hs:W.ShapedOpen Tryz.prog):ax0.Ground W:=by
 have h0:laidMet Tryz.prog Rows.compactedUptoRow.laid W:=h;have h2:=laidMet.tail (laidMet.tail h0);have h4:=laidMet.tail (laidMet.tail h2);have h5:=laidMet.tail h4;have k2:Lib.TabIs Tryz.prog W "internal/strconv.uint64pow10" .u64 Lib.pow10Tab:=Lib.tabIs_of_head gP gPType Tryz.underlying348 Tryz.underlying232 cellsU cellsP h2;have k4:W.rangeAt 0 0 kY:=kws_of_head h4;have k5:Lib.TabIs Tryz.prog W "tribune/query.kinds" .i64 (md.map fun n:Nat=>(n:Int)):=Lib.tabIs_of_head gKinds gKindsType Tryz.underlying354 Tryz.underlying256 cellsKind cellsKinds h5;have hm:=cell_of_shapedOpen_int (g:=1) (t:=3) (zero:=#[q 0]) (k:=.i64) hs (of_decide_eq_true ax) ax rfl ax ax Tryz.underlying3;refine⟨⟨k4,fun i hi=>?_,hm,?_⟩,k2⟩
 ·have:=k5.cell gKinds i (by simpa [md] using hi);refine this.trans ?_;congr 2;rw[List.getD_eq_getElem?_getD,List.getElem?_map,List.getD_eq_getElem?_getD];cases md[i]?<;>rfl
 ·have h7:(((begin Tryz.prog (fun _ _=>0) default).world.heap[7]?).bind Obj.row?).isSome=true:=ax;obtain⟨⟨zero,t⟩,h7⟩:=Option.isSome_iff_exists.1 h7;obtain⟨cs,hh,_,_⟩:=hs.1 7 zero t (of_decide_eq_true ax) h7;have:=(br hh).1;omega
