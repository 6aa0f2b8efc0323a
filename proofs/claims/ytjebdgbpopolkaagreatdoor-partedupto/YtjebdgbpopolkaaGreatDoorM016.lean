import Derived.Test.YtjebdgbpopolkaaGreatDoorM015
import Derived.Shelf.Abstract
set_option maxHeartbeats 0
set_option maxRecDepth 100000
set_option linter.all false
namespace Go.Proofs.YtjebdgbpopolkaaGreatDoor
open Tryz
open Go.RowKit
variable{rs:List (Nat×Value)}{m:Int}{w w' J:World}{b i k lo n size:Nat}{v:Value}{F F':Nat->Prop}{cs:Array Value}{T e t:TypeId}{xs:List Value}
def cQ(rs:List (Nat×Value)):List Value:=rs.flatMap fun C=>[q (C.1:Int),C.2]
def LF(l:List (Nat×Value))(c:Nat×Value):cQ (l++[c])=cQ l++[q (c.1:Int),c.2]:=by simp[cQ]
def Hl(l:List (Nat×Value)):(cQ l).length=l.length*2:=by
 induction l with
 | nil=>rfl
 | cons a C aH=>simp[cQ] at aH ⊢;omega
def Hm(l:List (Nat×Value))(p:Nat)(h:p<l.length):(cQ l)[p*2]?=some (q (l[p].1:Int))/\(cQ l)[p*2+1]?=some l[p].2:=by
 induction l generalizing p with
 | nil=>exact absurd h (fp _)
 | cons a C aH=>
  have e:cQ (a::C)=[q (a.1:Int),a.2]++cQ C:=by simp[cQ]
  rw[e];cases p with
  | zero=>exact⟨rfl,rfl⟩
  | succ p=>
   have:=aH p (by simpa using h);rw[List.getElem?_append_right (by simp;omega),List.getElem?_append_right (by simp;omega)];have Y:(p+1)*2 - [Value.int IntKind.i64 (a.1:Int),a.2].length=p*2:=by simp;omega
   have am:(p+1)*2+1 - [Value.int IntKind.i64 (a.1:Int),a.2].length=p*2+1:=by simp;omega
   rw[Y,am];simpa using this
def D6(l:List (Nat×Value))(i:Nat):(cQ l).take (i*2)=cQ (l.take i):=by
 induction l generalizing i with
 | nil=>simp[cQ]
 | cons a C aH=>
  cases i with
  | zero=>simp[cQ]
  | succ i=>
   have e:cQ (a::C)=q (a.1:Int)::a.2::cQ C:=by simp[cQ]
   have am:cQ ((a::C).take (i+1))=q (a.1:Int)::a.2::cQ (C.take i):=by simp[cQ]
   rw[e,am,show(i+1)*2=i*2+1+1 from r,List.take_succ_cons,List.take_succ_cons,aH]
def SX(l:List (Nat×Value))(i:Nat):(cQ l).drop (i*2)=cQ (l.drop i):=by
 induction l generalizing i with
 | nil=>simp[cQ]
 | cons a C aH=>
  cases i with
  | zero=>simp[cQ]
  | succ i=>
   have e:cQ (a::C)=q (a.1:Int)::a.2::cQ C:=by simp[cQ]
   rw[e,show(i+1)*2=i*2+1+1 from r,List.drop_succ_cons,List.drop_succ_cons,aH,List.drop_succ_cons]
def LG(a b:List (Nat×Value)):cQ (a++b)=cQ a++cQ b:=by simp[cQ]
def aeC(l:List (Nat×Value))(i:Nat):(cQ l).take (i*2)++(cQ l).drop (i*2+2)=cQ (l.eraseIdx i):=by rw[show i*2+2=(i+1)*2 from r,D6,SX,<-LG,List.eraseIdx_eq_take_drop_succ]
def nV:Option Nat->Int
 | none=>-1
 | some i=>i
def Hn(rs:List (Nat×Value))(m:Int)(j:Nat):Prop:=∀i (_:i<j) (h:i<rs.length),(rs[i].1:Int)≠m
def aeD(h:Hn rs m rs.length):rs.findIdx? (fun C=>(C.1:Int)==m)=none:=by rw[List.findIdx?_eq_none_iff];intro C ag;obtain⟨i,hi,rfl⟩:=List.mem_iff_getElem.1 ag;rw[cV];exact h i hi hi
def aeE{j:Nat}(h:Hn rs m j)(aS:j<rs.length)(e:(rs[j].1:Int)=m):rs.findIdx? (fun C=>(C.1:Int)==m)=some j:=by rw[List.findIdx?_eq_some_iff_getElem];refine⟨aS,beq_iff_eq.2 e,fun i hi A=>?_⟩;exact h i hi r (beq_iff_eq.1 A)
def dr{W:World}(A:Below lo w W)(h:dp w b i=some v)(X:b<lo):dp W b i=some v:=(A.cell (p:=⟨b,i,none⟩) X).trans h
def aeF(a m:Int)(v:Value)(bB:Nat)(w:World)(bw:dp w bB 0=some (q m))(X:bB<w.heap.size):ey 61 #[.agg #[q a,v],M bB] w (gU w (.bool (a==m))):=by have cy:¬bB=w.heap.size:=r;go_enter func61,ntmps61;go_wp2;go_ret;exact⟨rfl,cT⟩
def SY(rs:List (Nat×Value))(m:Int)(bB:Nat)(a:Option Addr)(af lo:Nat)(w:World)(bw:dp w bB 0=some (q m))(X:bB<w.heap.size)(an:w.ownsRow lo 115 2 (.slice a rs.length af) rs.length (cQ rs))(ar:rs.length<=1000):ey 60 #[.slice a rs.length af,.func (.func 61) #[] #[M bB]] w (gU w (q (nV (rs.findIdx? (fun C=>(C.1:Int)==m))))):=by
 have eX:∀args w,(callFunc 61 args).run prog w=.ok (.enter 61 args) w:=enters_of func61 ax rfl;go_enter func60,ntmps60;go_wp2_with fail;go_loopg [5,8] (rs.length+1) (fun U _ i wr=>∃j:Nat,j<=rs.length/\i=q (j:Int)/\Hid (Hn rs m j)/\eB w wr/\rs.length-j<U);case atStart=>exact⟨0,bu,rfl,u (fun i hi _=>absurd hi (fp _)),Below.refl _ _,r⟩
 case round=>
  obtain⟨j,aS,rfl,b8,A,ae⟩:=hrel;by_cases aD:j<rs.length
  ·have cL:(j:Int)<(rs.length:Int):=r;obtain⟨h1,H⟩:=Hm rs j aD;rcases an.2 with⟨bo,aw⟩ | ⟨g,cJ,ay,bo,eI,ed,-⟩
   ·omega
   obtain⟨rfl,rfl⟩:a=some ⟨g,0,none⟩/\af=cJ:=by injection bo with Y am bm;exact⟨Y,bm⟩
   have ef:g<w.heap.size:=(br ed).1;have c1:=dr A (by have:=an.cells rfl _ _ h1;rwa [Addr.add_lit,ax1] at this) ef;have c2:=dr A (by have:=an.cells rfl _ _ H;rwa [Addr.add_lit,ax1] at this) ef;have dT:=u (dr A bw X);have o9:bB<wr.heap.size:=by have:=A.size;omega
   have fr:IntKind.i64.wrap ((j:Int)+1)=(j:Int)+1:=mC;have ch:=u ae;clear h1 H ae ed bo;have bn:Hid (∀b,((rs[j].1:Int)==m)=b->(b=true->rs.findIdx? (fun C=>(C.1:Int)==m)=some j)/\(b=false->Hn rs m (j+1))):=u (fun b bg=>⟨fun e=>aeE b8.d aD (beq_iff_eq.1 (bg.trans e)),fun e a ak h=>by
     by_cases Y:a=j
     ·subst Y;exact cV.1 (bg.trans e)
     ·exact b8.d a r h⟩)
   have aN:=u (aeF (rs[j].1:Int) m rs[j].2 bB wr dT.d o9);generalize ((rs[j].1:Int)==m)=hb at aN bn;have SZ:=bn.d hb rfl;have eS:=u SZ;clear bn SZ b8;cases hb
   ·have bj:=u (eS.d.2 rfl);clear eS;go_wp2_with (go_at_fn 61;refine aN.d.mono ?_;rintro e S ⟨rfl,ah⟩);have ae:=ch.d;go_roundg (rs.length-j);case measure=>omega
    case rel=>exact⟨j+1,r,by go_num,bj,A.trans (ah.mono A.size),r⟩
   ·have bj:=u (eS.d.1 rfl);clear eS;go_wp2_with (go_at_fn 61;refine aN.d.mono ?_;rintro e S ⟨rfl,ah⟩);go_ret;exact⟨by rw[bj.d];rfl,A.trans (ah.mono A.size)⟩
  ·have cL:(rs.length:Int)<=(j:Int):=r;have lv:j=rs.length:=r;have bj:=u (aeD (lv▸b8.d));clear b8 ae lv;go_wp2_with fail;go_ret;exact⟨by rw[bj.d];rfl,A⟩
structure da (F:Nat->Prop) (w w':World):Prop where
 os:w'.os=w.os
 tape:w'.tape=w.tape
 output:w'.output=w.output
 size:w.heap.size<=w'.heap.size
 block:∀k,k<w.heap.size->¬F k->w'.heap[k]?=w.heap[k]?
def db(F:Nat->Prop)(w:World)(k:Nat):Prop:=(k<w.heap.size/\F k)\/w.heap.size<=k
def db.new(h:w.heap.size<=k):db F w k:=.inr h
def db.fH(h:k<w.heap.size)(hF:F k):db F w k:=.inl ⟨h,hF⟩
def db.any(hF:F k):db F w k:=by
 by_cases h:k<w.heap.size
 ·exact .inl ⟨h,hF⟩
 ·exact .inr r
def db.mP(hs:w.heap.size<=J.heap.size)(h:db (db F w) J k):db F w k:=by
 rcases h with⟨_,h⟩ | h
 ·exact h
 ·exact .inr r
def da.refl(F:Nat->Prop)(w:World):da F w w:=⟨rfl,rfl,rfl,ap,fun _ _ _=>rfl⟩
def da.trans{F:Nat->Prop}{w J S:World}(h:da F w J)(H:da (db F w) J S):da F w S:=⟨H.os.trans h.os,H.tape.trans h.tape,H.output.trans h.output,bX h.size H.size,fun k hk hF=>(H.block k (e0 hk h.size) (fun R=>by
 rcases R with⟨_,cC⟩ | cC
 ·exact hF cC
 ·omega)).trans (h.block k hk hF)⟩
def da.mono(h:da F w J)(hF:∀k,k<w.heap.size->F k->F' k):da F' w J:=⟨h.os,h.tape,h.output,h.size,fun k hk ar=>h.block k hk (fun cC=>ar (hF k hk cC))⟩
def da.andThen{S:World}(h:da F w J)(H:da F J S):da F w S:=h.trans (H.mono (fun _ _ hF=>db.any hF))
def da.of(h:eB w J):da F w J:=⟨h.os,h.tape,h.output,h.size,fun k hk _=>h.block k hk⟩
def da.grown{row:Option Nat}(h:w.grownBy J row)(ag:∀k,row=some k->F k):da F w J:=⟨h.os,h.tape,h.output,h.size,fun k hk hF=>h.block k hk (fun e=>hF (ag k e.symm))⟩
def da.set(b i:Nat)(v:Value)(hF:F b):da F w (w.setCell ⟨b,i,none⟩ v):=⟨rfl,rfl,rfl,by simp[World.setCell],fun k _ ar=>Below.heap_setCell _ _ _ k (fun e=>ar (by rw[e];exact hF))⟩
def da.below(h:da F w J){bB:Nat}(bw:∀k,k<w.heap.size->F k->bB<=k)(hs:bB<=w.heap.size):Below bB w J:=⟨h.os,h.tape,h.output,h.size,fun k hk=>h.block k r (fun hF=>by have:=bw k r hF;omega)⟩
def jn(F:Nat->Prop)(w:World)(b:Nat)(cs:Array Value)(t:TypeId):Prop:=F b/\w.heap[b]?=some (.cells cs t (0,0))
def dj(F F':Nat->Prop)(w w':World):Prop:=∀k,k<w.heap.size->F k->F' k/\w'.heap[k]?=w.heap[k]?
def dj.sub(h:dj F F' w w')(c:Nat->Nat)(i:Nat):dj (fun k=>F k/\c k=i) (fun k=>F' k/\c k=i) w w':=fun k hk hF=>⟨⟨(h k hk hF.1).1,hF.2⟩,(h k hk hF.1).2⟩
def dj.mP(h:eB w w'):dj F (db F w) w w':=fun k hk hF=>⟨db.fH hk hF,h.block k hk⟩
def dj.grow{G:Nat->Prop}(h:da G w w')(dh:∀k,F k->¬G k):dj F (db F w) w w':=fun k hk hF=>⟨db.fH hk hF,h.block k hk (dh k hF)⟩
def dj.to(h:∀k,k<w.heap.size->F k->F' k):dj F F' w w:=fun k hk hF=>⟨h k hk hF,rfl⟩
def jn.lt(h:jn F w b cs t):b<w.heap.size:=(br h.2).1
def jn.move(h:jn F w b cs t)(m:dj F F' w w'):jn F' w' b cs t:=by obtain⟨h1,H⟩:=m b h.lt h.1;exact⟨h1,H.trans h.2⟩
def jn.cell{F:Nat->Prop}{w:World}{b:Nat}{cs:Array Value}{t:TypeId}(h:jn F w b cs t){i:Nat}{x:Value}(aa:cs[i]?=some x):dp w b i=some x:=by simp[World.cell?,h.2,aa]
def jn.free(h:jn F w b cs t):w.frozen? ⟨b,i,none⟩=false:=by simp[World.frozen?,h.2]
def jn.set(h:jn F w b cs t)(i:Nat)(v:Value):jn F (w.setCell ⟨b,i,none⟩ v) b (cs.setIfInBounds i v) t:=⟨h.1,heap_setCell_same w b i cs t v h.2⟩
def eg(F:Nat->Prop)(w:World)(e:TypeId)(size:Nat)(v:Value)(n:Nat)(xs:List Value):Prop:=w.ownsRow 0 e size v n xs/\∀k,v.ownBlock=some k->F k
def eg.move(h:eg F w e size v n xs)(m:dj F F' w w'):eg F' w' e size v n xs:=by
 obtain⟨⟨h1,H⟩,ab⟩:=h;rcases H with ar | ⟨g,af,ay,rfl,X,en,rest⟩
 ·refine⟨⟨h1,.inl ar⟩,?_⟩;rw[ar.1];intro k hk;simp[Value.ownBlock] at hk
 ·have aD:g<w.heap.size:=(br en).1;obtain⟨m1,m2⟩:=m g aD (ab g rfl);refine⟨⟨h1,.inr ⟨g,af,ay,rfl,X,m2.trans en,rest⟩⟩,?_⟩;intro k hk;obtain rfl:g=k:=by simpa [Value.ownBlock] using hk
  exact m1
def eg.shape(h:eg F w e size v n xs):∃a af,v=.slice a n af:=by
 rcases h.1.2 with⟨rfl,rfl⟩ | ⟨g,af,ay,rfl,_⟩
 ·exact⟨_,_,rfl⟩
 ·exact⟨_,_,rfl⟩
def eg.Ho(h:eg F w e size v n xs)(ar:0<n):∃g af,v=.slice (some ⟨g,0,none⟩) n af/\n<=af/\F g/\g<w.heap.size:=by
 rcases h.1.2 with⟨rfl,rfl⟩ | ⟨g,af,ay,rfl,_,R,ai,_⟩
 ·omega
 ·exact⟨g,af,rfl,ai,h.2 g rfl,(br R).1⟩
def eg.nil(F:Nat->Prop)(w:World)(e:TypeId)(size:Nat):eg F w e size (.slice none 0 0) 0 []:=⟨World.ownsRow_nil _ _ _ _,fun k hk=>by simp[Value.ownBlock] at hk⟩
def eg.apart(an:eg F w e size v n xs)(h:w.heap[k]?=some (.cells cs T (0,0)))(bi:T≠e):v.ownBlock≠some k:=by
 rcases an.1.2 with⟨rfl,_⟩ | ⟨g,af,ay,rfl,_,ed,_⟩
 ·simp[Value.ownBlock]
 ·intro bo;simp[Value.ownBlock] at bo;subst bo;rw[h] at ed;simp at ed;exact bi ed.2
def S0(h:w.ownsRow lo e size v n xs):w.ownsRow 0 e size v n xs:=by
 refine⟨h.1,?_⟩;rcases h.2 with ar | ⟨g,af,ay,rfl,A,rest⟩
 ·exact .inl ar
 ·exact .inr ⟨g,af,ay,rfl,bu,rest⟩
def eg.new(h:w.ownsRow lo e size v n xs)(hF:∀k,lo<=k->F k):eg F w e size v n xs:=⟨S0 h,fun k hk=>hF k (h.lt k hk).1⟩
def eg.set(h:eg F w e size v n xs)(A:v.ownBlock≠some b)(i:Nat)(bp:Value):eg F (w.setCell ⟨b,i,none⟩ bp) e size v n xs:=by
 refine⟨⟨h.1.1,?_⟩,h.2⟩;rcases h.1.2 with ar | ⟨g,af,ay,rfl,X,en,rest⟩
 ·exact .inl ar
 ·exact .inr ⟨g,af,ay,rfl,X,(Below.heap_setCell _ _ _ g (fun bo=>A (by simp[Value.ownBlock,bo]))).trans en,rest⟩
def eg.cells{F:Nat->Prop}{w:World}{e:TypeId}{size n g af:Nat}{xs:List Value}(h:eg F w e size (.slice (some ⟨g,0,none⟩) n af) n xs){i:Nat}{x:Value}(aa:xs[i]?=some x):dp w g i=some x:=by have:=h.1.cells rfl i _ aa;rwa [Addr.add_lit,ax1] at this
def eg.a8(h:eg F w e size v n xs)(hm:∀k cs,v.ownBlock=some k->w.heap[k]?=some (.cells cs e (0,0))->k<w.heap.size->F k->F' k/\w'.heap[k]?=w.heap[k]?):eg F' w' e size v n xs:=by
 rcases h.1.2 with⟨rfl,rfl⟩ | ⟨g,af,ay,rfl,aY,ed,rest⟩
 ·exact⟨⟨h.1.1,.inl ⟨rfl,rfl⟩⟩,fun k hk=>by simp[Value.ownBlock] at hk⟩
 ·obtain⟨h1,H⟩:=hm g ay rfl ed (br ed).1 (h.2 g rfl);refine⟨⟨h.1.1,.inr ⟨g,af,ay,rfl,aY,H.trans ed,rest⟩⟩,fun k hk=>?_⟩;obtain rfl:g=k:=by simpa [Value.ownBlock] using hk
  exact h1
def eg.past{am:TypeId}{aeG b9:Nat}{b0:Value}{aeH:List Value}(h:eg F w e size v n xs)(hs:da (fun U=>U=b\/b0.ownBlock=some U) w w')(A:w.heap[b]?=some (.cells cs T (0,0)))(bi:T≠e)(ag:eg F w am aeG b0 b9 aeH)(he:e≠am):eg (db F w) w' e size v n xs:=h.a8 (fun k _ hk ed aD hF=>⟨db.fH aD hF,hs.block k aD (by
 rintro(rfl | bo)
 ·exact h.apart A bi hk
 ·exact ag.apart ed he bo)⟩)
