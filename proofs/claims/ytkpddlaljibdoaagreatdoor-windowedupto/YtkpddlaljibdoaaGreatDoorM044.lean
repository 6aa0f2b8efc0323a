import Derived.Test.YtkpddlaljibdoaaGreatDoorM043
import Derived.Test.YtkpddlaljibdoaaGreatDoorRows
import Derived.Deep.Strs
set_option maxHeartbeats 20000000
set_option maxRecDepth 100000
set_option linter.all false
namespace Go.Proofs.YtkpddlaljibdoaaGreatDoor
open Go.RowKit
open Go.WideShapes Go.Deep
open bS
theorem bulk_one{H:Type}(aq:DataW H):1<=Rows.uptoBulk aq:=by
 cases aq with
 | lit l=>cases l<;>simp[Rows.uptoBulk]
 | nil=>simp[Rows.uptoBulk]
 | ptr aq=>simp[Rows.uptoBulk]
 | slice elems spare=>simp[Rows.uptoBulk]
 | agg parts=>simp[Rows.uptoBulk]
 | iface t aq=>simp[Rows.uptoBulk]
 | map entries=>simp[Rows.uptoBulk]
 | held h=>simp[Rows.uptoBulk]
theorem bulk_len{H:Type}(l:List (DataW H)):l.length<=Rows.uptoBulkAll l:=by
 induction l with
 | nil=>simp[Rows.uptoBulkAll]
 | cons x C ih=>have:=bulk_one x;simp only[Rows.uptoBulkAll,di];omega
theorem bulk_slice{H:Type}(elems spare:List (DataW H)):Rows.uptoBulkAll elems+1<=Rows.uptoBulk (.slice elems spare):=by simp only[Rows.uptoBulk];omega
theorem cells3:Tryz.prog.cellsOf 3=1:=ax
theorem cells9:Tryz.prog.cellsOf 9=1:=ax
theorem wf_i64{n:Int}(h:(Lit.int .i64 n).wf=true): -9223372036854775808<=n/\n<=9223372036854775807:=by simp[Lit.wf,IntKind.min,IntKind.max,IntKind.signed,IntKind.bits] at h;omega
theorem two{α:Type}{l:List α}(h:l.length=2):∃a b,l=[a,b]:=by
 match l,h with
 | [a,b],_=>exact⟨a,b,rfl⟩
section
variable {H:Type} {enc:TypeId×Value->H} {W:World}
variable{v:Value}{aq:DataW H}{p:List MemPlace}
end
section
variable {H:Type} {enc:TypeId×Value->H} {W:World}
variable{v:Value}{aq:DataW H}{p:List MemPlace}
theorem cells4:Tryz.prog.cellsOf 4=1:=ax
theorem open_ones{t e:TypeId}(ht:Tryz.prog.underlying t=some (.slice e))(hce:Tryz.prog.cellsOf e=1){α:Type}[Inhabited α](f:α->Value)(P:α->Prop)(hone:∀{n:Nat} {cs:List Value} {x:DataW H×List MemPlace},DataW.trod enc Tryz.prog W 0 (fun _=>true) true n e cs=some x->∃o,cs=[f o]/\P o)(ho:∃a len cap,v=.slice a len cap)(h:DataW.Trod enc Tryz.prog W 0 (fun _=>true) true t v aq p)(hk:Rows.uptoBulk aq<=1048576):∃os:List α,(∃a cap,v=.slice a os.length cap/\(os=[]\/∃g off,a=some ⟨g,off,none⟩/\g<W.heap.size/\∀i (h:i<os.length),W.cell? ⟨g,off+i,none⟩=some (f os[i])))/\os.length<=1048576/\∀x∈os,P x:=by
 obtain⟨av,lv,cv,rfl⟩:=ho;obtain⟨fuel,h⟩:=h;rcases open_slice ht h with⟨h0,hx⟩ | ⟨a,len,cap,m,n,D,Pl,hcs,hb,hlc,hcm,hm,hx,hc⟩
 ·refine⟨[],⟨none,0,?_,.inl rfl⟩,by simp,fun x hx=>by cases hx⟩;have:=h0;simpa [Value.cells] using this
 ·have hv:(Value.slice av lv cv)=.slice (some a) len cap:=by simpa [Value.cells] using hcs
  rw[hv];have hmc:m=cap:=by simpa using hm
  injection hx with hd hp;subst hd;have hs:=bulk_slice ((List.range len).map D) ((List.range (m-len)).map fun j=>D (len+j));have hlen:len<=1048576:=by have h2:=bulk_len ((List.range len).map D);rw[cZ,List.length_range] at h2;omega
  have hst:∀i,i<len->∃o:α,W.cell? (a.add i)=some (f o)/\P o:=fun i hi=>by obtain⟨cs',hc1,hc2⟩:=hc i r;rw[hce,Nat.mul_one] at hc1;obtain⟨o,rfl,hP⟩:=hone hc2;obtain⟨_,hl6,hc6⟩:=World.cells?_some hc1;have h1:=hc6 0 K;rw[show(a.add i).add 0=a.add i from by simp[Addr.add]] at h1;exact⟨o,h1,hP⟩
  obtain⟨O,hO⟩:=choose_lt hst;have hll:((List.range len).map O).length=len:=by simp
  refine⟨(List.range len).map O,⟨some a,cap,by rw[hll],?_⟩,by rw[hll];exact hlen,fun x hx=>?_⟩
  ·by_cases h0:len=0
   ·subst h0;exact .inl rfl
   ·right;have h00:=(hO 0 r).1;have hspot:a.spot=none:=by rw[show a.add 0=a from by simp[Addr.add]] at h00;exact World.cell?_spot h00
    obtain⟨U,off,sp⟩:=a;have hsn:sp=none:=hspot;subst hsn;refine⟨U,off,rfl,?_,fun i hi=>?_⟩
    ·rw[Addr.add_lit] at h00;exact World.block_lt_of_cell? W _ h00
    ·have hi':i<len:=by simpa using hi
     have e:((List.range len).map O)[i]=O i:=by simp
     rw[e];have:=(hO i hi').1;rw[Addr.add_lit] at this;exact this
  ·obtain⟨i,hi,rfl⟩:=List.mem_map.1 hx;exact(hO i (List.mem_range.1 hi)).2
theorem open_ints(ho:∃a len cap,v=.slice a len cap)(h:DataW.Trod enc Tryz.prog W 0 (fun _=>true) true 38 v aq p)(hk:Rows.uptoBulk aq<=1048576):∃os,apb W v os:=by
 obtain⟨os,h1,h2,h3⟩:=open_ones (α:=Int) Tryz.underlying38 cells3 (fun n=>.int .i64 n) (fun x=>-9223372036854775808<=x/\x<=9223372036854775807) (fun {n cs x} h=>by
  obtain⟨n0,e0,_,w0⟩:=DataW.trod_int Tryz.underlying3 h;exact⟨n0,by simpa using e0,wf_i64 w0⟩) ho h hk
 exact⟨os,h1,h2,h3⟩
theorem open_bools(ho:∃a len cap,v=.slice a len cap)(h:DataW.Trod enc Tryz.prog W 0 (fun _=>true) true 39 v aq p)(hk:Rows.uptoBulk aq<=1048576):∃os,apd W v os:=by
 obtain⟨os,h1,h2,_⟩:=open_ones (α:=Bool) Tryz.underlying39 cells4 (fun n=>.bool n) (fun _=>True) (fun {n cs x} h=>by
  obtain⟨n0,e0,_⟩:=DataW.trod_bool Tryz.underlying4 h;exact⟨n0,by simpa using e0,trivial⟩) ho h hk
 exact⟨os,h1,h2⟩
end
end Go.Proofs.YtkpddlaljibdoaaGreatDoor
