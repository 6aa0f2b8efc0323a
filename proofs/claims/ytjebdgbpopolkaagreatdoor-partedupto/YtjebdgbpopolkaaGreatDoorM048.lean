import Derived.Test.YtjebdgbpopolkaaGreatDoorM041
import Derived.Test.YtjebdgbpopolkaaGreatDoorRows
import Derived.Deep.Strs
import Derived.Test.YtjebdgbpopolkaaGreatDoorM043
set_option maxHeartbeats 0
set_option maxRecDepth 100000
set_option linter.all false
namespace Go.Proofs.YtjebdgbpopolkaaGreatDoor
open Go.RowKit
open Go.WideShapes Go.Deep
open bS
def bulk_one{H:Type}(aq:DataW H):1<=Rows.uptoBulk aq:=by
 cases aq with
 | lit l=>cases l<;>simp[Rows.uptoBulk]
 | nil=>simp[Rows.uptoBulk]
 | ptr aq=>simp[Rows.uptoBulk]
 | slice elems spare=>simp[Rows.uptoBulk]
 | agg parts=>simp[Rows.uptoBulk]
 | iface t aq=>simp[Rows.uptoBulk]
 | map entries=>simp[Rows.uptoBulk]
 | held h=>simp[Rows.uptoBulk]
def bulk_len{H:Type}(l:List (DataW H)):l.length<=Rows.uptoBulkAll l:=by
 induction l with
 | nil=>simp[Rows.uptoBulkAll]
 | cons x C ih=>have:=bulk_one x;simp only[Rows.uptoBulkAll,di];omega
def bulk_slice{H:Type}(elems spare:List (DataW H)):Rows.uptoBulkAll elems+1<=Rows.uptoBulk (.slice elems spare):=by simp only[Rows.uptoBulk];omega
def cells3:Tryz.prog.cellsOf 3=1:=ax
def cells9:Tryz.prog.cellsOf 9=1:=ax
def cells51:Tryz.prog.cellsOf 52=2:=ax
def wf_i64{n:Int}(h:(Lit.int .i64 n).wf=true): -9223372036854775808<=n/\n<=9223372036854775807:=by simp[Lit.wf,IntKind.min,IntKind.max,IntKind.signed,IntKind.bits] at h;omega
def two{α:Type}{l:List α}(h:l.length=2):∃a b,l=[a,b]:=by
 match l,h with
 | [a,b],_=>exact⟨a,b,rfl⟩
section
variable {H:Type} {enc:TypeId×Value->H} {W:World}
def open_item{fuel:Nat}{cs:List Value}{x:DataW H×List MemPlace}(h:DataW.trod enc Tryz.prog W 0 (fun _=>true) true fuel 52 cs=some x):∃o:Int×Int,cs=[q o.1,q o.2]/\-9223372036854775808<=o.1/\o.1<=9223372036854775807/\-9223372036854775808<=o.2/\o.2<=9223372036854775807:=by
 obtain⟨xs,n,rfl,rfl,hl,hxl,hf⟩:=DataW.trod_struct Tryz.underlying52 h;rw[cells51] at hl;obtain⟨c0,c1,rfl⟩:=two hl;obtain⟨x0,x1,rfl⟩:=two hxl;have g0:DataW.trod enc Tryz.prog W 0 (fun _=>true) true n 3 (List.take (Tryz.prog.cellsOf 3) (List.drop 0 [c0,c1]))=some x0:=hf 0 _ rfl;rw[cells3] at g0;replace g0:DataW.trod enc Tryz.prog W 0 (fun _=>true) true n 3 [c0]=some x0:=g0;have g1:DataW.trod enc Tryz.prog W 0 (fun _=>true) true n 3 (List.take (Tryz.prog.cellsOf 3) (List.drop 1 [c0,c1]))=some x1:=hf 1 _ rfl;rw[cells3] at g1;replace g1:DataW.trod enc Tryz.prog W 0 (fun _=>true) true n 3 [c1]=some x1:=g1;obtain⟨n0,e0,rfl,w0⟩:=DataW.trod_int Tryz.underlying3 g0;obtain⟨bM,Y,rfl,w1⟩:=DataW.trod_int Tryz.underlying3 g1;obtain rfl:c0=_:=by simpa using e0
 obtain rfl:c1=_:=by simpa using Y
 have a:=wf_i64 w0;have b:=wf_i64 w1;exact⟨(n0,bM),rfl,a.1,a.2,b.1,b.2⟩
def open_items{v:Value}{aq:DataW H}{p:List MemPlace}(ho:∃a len cap,v=.slice a len cap)(h:DataW.Trod enc Tryz.prog W 0 (fun _=>true) true 22 v aq p)(hk:Rows.uptoBulk aq<=1048576):∃os,CY W v os:=by
 obtain⟨av,lv,cv,rfl⟩:=ho;obtain⟨fuel,h⟩:=h;rcases open_slice Tryz.underlying22 h with⟨h0,hx⟩ | ⟨a,len,cap,m,n,D,Pl,hcs,hb,hlc,hcm,hm,hx,hc⟩
 ·refine⟨[],⟨none,0,?_,.inl rfl⟩,by simp,fun o ho=>absurd ho ax4⟩;have:=h0;simpa [Value.cells] using this
 ·have hv:(Value.slice av lv cv)=.slice (some a) len cap:=by simpa [Value.cells] using hcs
  rw[hv];have hmc:m=cap:=by simpa using hm
  injection hx with hd hp;subst hd;have hs:=bulk_slice ((List.range len).map D) ((List.range (m-len)).map fun j=>D (len+j));have hlen:len<=1048576:=by have h2:=bulk_len ((List.range len).map D);rw[cZ,List.length_range] at h2;omega
  have hst:∀i,i<len->∃o:Int×Int,(W.cells? 0 (a.add (i*2)) 2=some [q o.1,q o.2])/\-9223372036854775808<=o.1/\o.1<=9223372036854775807/\-9223372036854775808<=o.2/\o.2<=9223372036854775807:=fun i hi=>by obtain⟨cs',hc1,hc2⟩:=hc i r;rw[cells51] at hc1;obtain⟨o,rfl,h3⟩:=open_item hc2;exact⟨o,hc1,h3⟩
  obtain⟨O,hO⟩:=choose_lt hst;have hll:((List.range len).map O).length=len:=by simp
  refine⟨(List.range len).map O,⟨some a,cap,by rw[hll],?_⟩,by rw[hll];exact hlen,?_⟩
  ·by_cases h0:len=0
   ·subst h0;exact .inl rfl
   ·right;have hcell:∀i (_:i<len),W.cell? (a.add (i*2))=some (q (O i).1)/\W.cell? ((a.add (i*2)).add 1)=some (q (O i).2):=fun i hi=>by obtain⟨_,hl6,hc6⟩:=World.cells?_some (hO i hi).1;have h1:=hc6 0 K;have h2:=hc6 1 K;refine⟨?_,h2⟩;rw[show(a.add (i*2)).add 0=a.add (i*2) from by simp[Addr.add]] at h1;exact h1
    have h00:=(hcell 0 r).1;have hspot:a.spot=none:=by rw[show a.add (0*2)=a from by simp[Addr.add]] at h00;exact World.cell?_spot h00
    obtain⟨U,off,sp⟩:=a;have hsn:sp=none:=hspot;subst hsn;refine⟨U,off,rfl,?_,fun i hi=>?_⟩
    ·rw[Addr.add_lit] at h00;exact World.block_lt_of_cell? W _ h00
    ·have hi':i<len:=by simpa using hi
     have e:((List.range len).map O)[i]=O i:=by simp
     rw[e];have:=hcell i hi';rw[Addr.add_lit,Addr.add_lit] at this;exact this
  ·intro o ho;obtain⟨i,hi,rfl⟩:=List.mem_map.1 ho;exact(hO i (List.mem_range.1 hi)).2
end
section
variable {H:Type} {enc:TypeId×Value->H} {W:World}
def open_raws{v:Value}{aq:DataW H}{p:List MemPlace}(ho:∃a len cap,v=.slice a len cap)(h:DataW.Trod enc Tryz.prog W 0 (fun _=>true) true 23 v aq p)(hk:Rows.uptoBulk aq<=1048576):∃os,ahQ W v os:=by
 obtain⟨av,lv,cv,rfl⟩:=ho;obtain⟨fuel,h⟩:=h;rcases open_slice Tryz.underlying23 h with⟨h0,hx⟩ | ⟨a,len,cap,m,n,D,Pl,hcs,hb,hlc,hcm,hm,hx,hc⟩
 ·refine⟨[],⟨none,0,?_,bu,.inl rfl⟩,by simp,fun x hx=>by cases hx⟩;have:=h0;simpa [Value.cells] using this
 ·have hv:(Value.slice av lv cv)=.slice (some a) len cap:=by simpa [Value.cells] using hcs
  rw[hv];have hmc:m=cap:=by simpa using hm
  injection hx with hd hp;subst hd;have hs:=bulk_slice ((List.range len).map D) ((List.range (m-len)).map fun j=>D (len+j));have hlen:len<=1048576:=by have h2:=bulk_len ((List.range len).map D);rw[cZ,List.length_range] at h2;omega
  have hst:∀i,i<len->∃o:Int,W.cell? (a.add i)=some (.int .i64 o)/\-9223372036854775808<=o/\o<=9223372036854775807:=fun i hi=>by
   obtain⟨cs',hc1,hc2⟩:=hc i r;rw[cells3,Nat.mul_one] at hc1;obtain⟨n0,e0,_,w0⟩:=DataW.trod_int Tryz.underlying3 hc2;obtain rfl:cs'=[.int .i64 n0]:=by simpa using e0
   obtain⟨_,hl6,hc6⟩:=World.cells?_some hc1;have h1:=hc6 0 K;rw[show(a.add i).add 0=a.add i from by simp[Addr.add]] at h1;exact⟨n0,h1,wf_i64 w0⟩
  obtain⟨O,hO⟩:=choose_lt hst;have hll:((List.range len).map O).length=len:=by simp
  refine⟨(List.range len).map O,⟨some a,cap,by rw[hll],by rw[hll];omega,?_⟩,by rw[hll];exact hlen,fun x hx=>?_⟩
  ·by_cases h0:len=0
   ·subst h0;exact .inl rfl
   ·right;have h00:=(hO 0 r).1;have hspot:a.spot=none:=by rw[show a.add 0=a from by simp[Addr.add]] at h00;exact World.cell?_spot h00
    obtain⟨U,off,sp⟩:=a;have hsn:sp=none:=hspot;subst hsn;refine⟨U,off,rfl,?_,fun i hi=>?_⟩
    ·rw[Addr.add_lit] at h00;exact World.block_lt_of_cell? W _ h00
    ·have hi':i<len:=by simpa using hi
     have e:((List.range len).map O)[i]=O i:=by simp
     rw[e];have:=(hO i hi').1;rw[Addr.add_lit] at this;exact this
  ·obtain⟨i,hi,rfl⟩:=List.mem_map.1 hx;exact(hO i (List.mem_range.1 hi)).2
end
