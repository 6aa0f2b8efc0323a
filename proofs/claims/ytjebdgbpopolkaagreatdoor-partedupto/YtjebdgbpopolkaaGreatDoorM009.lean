import Derived.Test.YtjebdgbpopolkaaGreatDoorM00
import Derived.Test.YtjebdgbpopolkaaGreatDoorM001
import Derived.Lib.Split
set_option maxHeartbeats 0
set_option maxRecDepth 100000
set_option linter.all false
namespace bS
open Go
variable{j m:Nat}{e5:e4}{name:e6}{B:List bG}{O:Int}{e g h wh:aL}{V:lh}{E:List eO}{st:az}
def Gu(c:UInt8)(s:List UInt8):∃h t,splitB c s=h::t:=by
 cases s with
 | nil=>exact⟨_,_,rfl⟩
 | cons a C=>
  rw[splitB];split
  ·exact⟨_,_,rfl⟩
  ·split<;>exact⟨_,_,rfl⟩
def Di(c:UInt8):∀s:List UInt8,(Lib.indexByte s c = -1/\splitB c s=[s])\/∃i:Nat,Lib.indexByte s c=i/\i<s.length/\splitB c s=s.take i::splitB c (s.drop (i+1))
 | []=>.inl ⟨rfl,rfl⟩
 | a::C=>by
  by_cases h:a=c
  ·subst h;refine .inr ⟨0,?_,by simp,?_⟩
   ·simp[Lib.indexByte]
   ·simp[splitB]
  ·have A:(a==c)=false:=by simpa using h
   rcases Di c C with⟨h1,H⟩ | ⟨i,h1,H,ab⟩
   ·refine .inl ⟨?_,?_⟩
    ·simp[Lib.indexByte,A,h1]
    ·rw[splitB,if_neg h,H]
   ·refine .inr ⟨i+1,?_,by simp;omega,?_⟩
    ·have ar:((Lib.indexByte C c) == -1)=false:=by rw[h1];simp
     rw[Lib.indexByte,A,ar,h1];simp
    ·rw[splitB,if_neg h,ab];rfl
def aaT(c:UInt8)(s:List UInt8):(splitB c s).length<=s.length+1:=by
 induction s with
 | nil=>simp[splitB]
 | cons a C aH=>
  rw[splitB];split
  ·simp only[di];omega
  ·obtain⟨h,t,e⟩:=Gu c C;rw[e] at aH ⊢;simp only[di] at aH ⊢;omega
def aaU(c:UInt8):∀(k:Nat) (s:List UInt8),((splitB c s).length<=k+1->Lib.splitK [c] 0 k s=splitB c s)/\(k+1<(splitB c s).length->(Lib.splitK [c] 0 k s).length=k+1):=by
 intro k;induction k with
 | zero=>
  intro s;refine⟨fun h=>?_,fun _=>rfl⟩;rcases Di c s with⟨_,H⟩ | ⟨i,_,_,ab⟩
  ·rw[H];rfl
  ·obtain⟨x,t,e⟩:=Gu c (s.drop (i+1));rw[ab,e] at h;simp at h
 | succ k aH=>
  intro s;rcases Di c s with⟨h1,H⟩ | ⟨i,h1,H,ab⟩
  ·have e:Lib.splitK [c] 0 (k+1) s=[s]:=by rw[Lib.splitK,Lib.index_one,h1];rfl
   rw[e,H];exact⟨fun _=>rfl,fun h=>absurd h (by simp)⟩
  ·have ar:(Lib.indexByte s c == -1)=false:=by rw[h1];simp
   have e:Lib.splitK [c] 0 (k+1) s=s.take i::Lib.splitK [c] 0 k (s.drop (i+1)):=by rw[Lib.splitK,Lib.index_one,ar,h1];rfl
   obtain⟨cn,i2⟩:=aH (s.drop (i+1));rw[e,ab];refine⟨fun h=>?_,fun h=>?_⟩
   ·rw[cn (by simp only[di] at h;omega)]
   ·simp only[di] at h ⊢;rw[i2 r]
def aaV(c:UInt8)(m:Nat)(s:List UInt8):(m<(Lib.splitK [c] 0 (min (m+1) (s.length+1)-1) s).length↔m<(splitB c s).length)/\(¬m<(splitB c s).length->Lib.splitK [c] 0 (min (m+1) (s.length+1)-1) s=splitB c s):=by
 have X:=aaT c s;obtain⟨h1,H⟩:=aaU c (min (m+1) (s.length+1)-1) s;by_cases h:(splitB c s).length<=min (m+1) (s.length+1)-1+1
 ·rw[h1 h];exact⟨Iff.rfl,fun _=>rfl⟩
 ·have e:=H r;refine⟨r,fun ab=>?_⟩;omega
def y9(n k:List UInt8):Option (e6×Nat):=if iP n then (if k=[105] then some (a7 n,1) else if k=[116] then some (a7 n,2) else none) else none
def si(p:List UInt8):Option (e6×Nat):=y9 (Lib.cut p [58]).1 (Lib.cut p [58]).2.1
def QO(n k:List UInt8)(h1:k≠[105])(H:k≠[116]):y9 n k=none:=by unfold y9;rw[if_neg h1,if_neg H];split<;>rfl
def aaW(p:List UInt8):si p=A8 p:=by
 unfold si A8;rcases Di 58 p with⟨h1,H⟩ | ⟨i,h1,H,ab⟩
 ·have e:Lib.cut p [58]=(p,[],false):=by unfold Lib.cut;rw[Lib.index_one,h1];rfl
  rw[e,H];exact QO _ _ (by simp) (by simp)
 ·have e:Lib.cut p [58]=(p.take i,p.drop (i+1),true):=by unfold Lib.cut;rw[Lib.index_one,h1,if_pos r];rfl
  rw[e,ab];show y9 (p.take i) (p.drop (i+1))=_;rcases Di 58 (p.drop (i+1)) with⟨g1,g2⟩ | ⟨j,g1,g2,g3⟩
  ·rw[g2];show y9 (p.take i) (p.drop (i+1))=if _ then _ else if _ then _ else _
   unfold y9;cases iP (p.take i)
   ·simp
   ·simp
  ·obtain⟨x,t,bo⟩:=Gu 58 ((p.drop (i+1)).drop (j+1));rw[g3,bo];refine(QO _ _ ?_ ?_).trans rfl
   ·intro kX;rw[kX] at g1;have:Lib.indexByte [105] 58 = -1:=K;omega
   ·intro kX;rw[kX] at g1;have:Lib.indexByte [116] 58 = -1:=K;omega
def QP{α β:Type}(g:α->Option β)(a:List α)(x:α):iq g (a++[x])=(iq g a).bind fun l=>(g x).bind fun y=>some (l++[y]):=by
 induction a with
 | nil=>cases h:g x<;>simp[iq,h]
 | cons b C aH=>
  show(g b).bind (fun j1=>(iq g (C++[x])).bind fun y=>some (j1::y))=((g b).bind fun j1=>(iq g C).bind fun y=>some (j1::y)).bind _;rw[aH];cases g b with
  | none=>rfl
  | some y=>
   cases iq g C with
   | none=>rfl
   | some z=>cases g x<;>rfl
def QQ{α β:Type}(g:α->Option β)(a:List α)(x:α)(aa:x∈a)(h:g x=none):iq g a=none:=by
 induction a with
 | nil=>cases aa
 | cons b C aH=>
  rcases List.mem_cons.1 aa with rfl | aa
  ·simp[iq,h]
  ·rw[iq,aH aa];cases g b<;>rfl
def xz(a b:e6):(a==b)=true↔a=b:=by
 cases a with
 | mk x=>cases b with
  | mk y=>
   show(x==y)=true↔_;rw[beq_iff_eq];constructor
   ·rintro rfl;rfl
   ·intro h;injection h
def Dj(l:List (e6×Nat))(j:Nat):Prop:=∀a b (pA:a<b) (_:b<j) (X:b<l.length),l[b].1≠(l[a]'r).1
def Gv(l:List (e6×Nat))(j i:Nat)(aS:j<l.length):Prop:=∀a (ak:a<i) (X:a<l.length),l[j].1≠l[a].1
def Dj.next{l:List (e6×Nat)}(h:Dj l j)(aS:j<l.length)(H:Gv l j j aS):Dj l (j+1):=by
 intro a b pA A X;by_cases e:b=j
 ·subst e;exact H a pA r
 ·exact h a b pA r X
def QR:∀(l:List (e6×Nat)),Dj l l.length->twins l=false
 | [],_=>rfl
 | x::C,h=>by
  rw[twins];have h1:C.any (fun b=>b.1==x.1)=false:=by rw[List.any_eq_false];intro b A;rw[xz];obtain⟨i,hi,rfl⟩:=List.mem_iff_getElem.1 A;exact h 0 (i+1) r (by simpa using hi) (by simpa using hi)
  have H:twins C=false:=QR C (fun a b pA A X=>by
   have:=h (a+1) (b+1) r (by simpa using A) (by simpa using X);simpa using this)
  rw[h1,H];rfl
def QS:∀(l:List (e6×Nat)) (a b:Nat) (pA:a<b) (A:b<l.length),l[b].1=(l[a]'r).1->twins l=true
 | [],a,b,_,A,_=>absurd A (fp _)
 | x::C,a,b,pA,A,e=>by
  rw[twins];cases b with
  | zero=>omega
  | succ b=>
   cases a with
   | zero=>
    have:C.any (fun b=>b.1==x.1)=true:=by rw[List.any_eq_true];exact⟨C[b]'(by simpa using A),ec _,(xz _ _).2 (by simpa using e)⟩
    rw[this];rfl
   | succ a=>rw[QS C a b r (by simpa using A) (by simpa using e),Bool.or_true]
def nK(e5:e4)(name:e6):Option Nat:=e5.findIdx? (fun n=>n==name)
def Gw(e5:e4)(name:e6)(j:Nat):Prop:=∀i (_:i<j) (h:i<e5.length),e5[i]≠name
def aaY(h:Gw e5 name e5.length):nK e5 name=none:=by
 unfold nK;rw[List.findIdx?_eq_none_iff];intro n ar;obtain⟨i,hi,rfl⟩:=List.mem_iff_getElem.1 ar;cases A:e5[i]==name with
 | false=>rfl
 | true=>exact absurd ((xz _ _).1 A) (h i hi hi)
def aaZ(h:Gw e5 name j)(aS:j<e5.length)(e:e5[j]=name):nK e5 name=some j:=by unfold nK;rw[List.findIdx?_eq_some_iff_getElem];refine⟨aS,(xz _ _).2 e,fun i hi=>?_⟩;intro A;exact h i hi r ((xz _ _).1 A)
def Kl(l:List al)(cs:List (e6×Nat))(j:Nat):Prop:=∀i (_:i<j) (h:i<l.length) (H:i<cs.length),l[i].kind=0\/l[i].kind=cs[i].2
def QT:∀(l:List al) (cs:List (e6×Nat)),Kl l cs l.length->q7 l cs=true
 | [],_,_=>rfl
 | v::vs,[],_=>rfl
 | v::vs,c::cs,h=>by
  rw[q7];have aw:=h 0 (by simp) (by simp) (by simp);have h1:(v.kind==0||v.kind==c.2)=true:=by
   rcases aw with aw | aw
   ·have:v.kind=0:=aw;rw[this];rfl
   ·have:v.kind=c.2:=aw;rw[this];simp
  rw[h1,QT vs cs (fun i hi ak A=>by
   have:=h (i+1) (by simpa using hi) (by simpa using ak) (by simpa using A);simpa using this)]
  rfl
def QU:∀(l:List al) (cs:List (e6×Nat)) (i:Nat) (h:i<l.length) (H:i<cs.length),l[i].kind≠0->l[i].kind≠cs[i].2->q7 l cs=false
 | [],_,_,h,_,_,_=>absurd h (fp _)
 | v::vs,[],_,_,H,_,_=>absurd H (fp _)
 | v::vs,c::cs,i,h,H,bM,b9=>by
  rw[q7];cases i with
  | zero=>
   have Y:(v.kind==0)=false:=by simpa using bM
   have am:(v.kind==c.2)=false:=by simpa using b9
   rw[Y,am];rfl
  | succ i=>rw[QU vs cs i (by simpa using h) (by simpa using H) (by simpa using bM) (by simpa using b9),Bool.and_false]
def Be{α β:Type}(g:α->Option β):∀(a:List α) (l:List β),iq g a=some l->l.length=a.length
 | [],l,h=>by obtain rfl:=bx h;rfl
 | x::C,l,h=>by rw[iq] at h;obtain⟨y,_,h⟩:=aV h;obtain⟨z,aY,h⟩:=aV h;obtain rfl:=bx h;rw[di,di,Be g C z aY]
def Pm(bi:nW B)(dA : -1000000000000<=O)(er:O<=1000000000000)(R:aJ (.query e V wh g h) 2)(cv:mr (.query e V wh g h))(I:List eO)(ag:cB E st.ad)(hw:gI m st):(∀x∈(bR B O (.query e V wh g h) I st).2.1,H7 (ea B V) (dH e) x)/\(bR B O (.query e V wh g h) I st).2.1.length<=20001:=by
 obtain⟨⟨p1,p2,fw,pf⟩,rR,sQ,vk⟩:=Ic bi dA er (ym bi dA er (eY wh) wh ap).1 (ym bi dA er (eY h) h ap).1 R cv (I++ea B V) ag hw;obtain⟨g1,g2,g3⟩:=M7 (e:=e) (g:=g) (h:=h) rR (Q:=cB (ea B V)) (iJ B V (iZ (bR B O wh (I++ea B V)) wh) st) fw;obtain⟨bq,a2,a3,a4,a5⟩:=M8 (E:=E) (D:=ea B V) (n:=dH e) (a8:=iZ (bR B O h (I++ea B V)) h) (ba:=hL (I++ea B V) O e) (mR e g h (hL (I++ea B V) O g) (iJ B V (iZ (bR B O wh (I++ea B V)) wh) st)).1 [] (mR e g h (hL (I++ea B V) O g) (iJ B V (iZ (bR B O wh (I++ea B V)) wh) st)).2 (fun aG hm=>by
  obtain⟨bz,cz,_⟩:=g2 aG hm;exact⟨cz,r,fun s=>sQ _ s,fun s=>vk _ s⟩) (by rw[g1];exact p1) (fun x aa=>by cases aa)
 rw[Ia];refine⟨a4,?_⟩;simp only[List.length_nil] at a5;exact bX a5 r
def W5{l:List bG}{i:Nat}(h:fD l name=some i):∃(hi:i<l.length),l[i].name=name:=by unfold fD at h;obtain⟨h1,H,_⟩:=List.findIdx?_eq_some_iff_getElem.1 h;exact⟨h1,(xz _ _).1 H⟩
def W6{k:Nat}{l:e4}{x:e6×e4}(h:dq k l=some x):x.2.length+1<=l.length:=by
 match l,h with
 | t::C,h=>
  rw[dq] at h;split at h
  ·obtain rfl:=bx h;exact ap
  ·cases h
def W7:∀f,∀l x,bP f 0 l=some x->nq x.2=0:=by
 intro f;induction f with
 | zero=>intro l x h;cases h
 | succ f i0=>
  intro l x h;rw[bP] at h;split at h
  ·unfold hp at h;obtain⟨a,_,h⟩:=aV h;obtain⟨b,_,h⟩:=aV h;obtain⟨c,_,h⟩:=aV h;obtain rfl:=bx h;rfl
  split at h
  ·obtain rfl:=bx h;rfl
  split at h
  ·obtain⟨a,ak,h⟩:=aV h;split at h
   ·obtain⟨b,A,h⟩:=aV h;obtain⟨c,_,h⟩:=aV h;obtain rfl:=bx h;show nq a.2+(nq b.2+0)+0=0;rw[i0 _ _ ak,i0 _ _ A]
   ·cases h
  split at h
  ·obtain⟨a,_,h⟩:=aV h;split at h
   ·obtain⟨c,_,h⟩:=aV h;obtain rfl:=bx h;rfl
   ·obtain⟨b,A,h⟩:=aV h;obtain⟨c,_,h⟩:=aV h;obtain rfl:=bx h;show nq b.2+0+0=0;rw[i0 _ _ A]
  split at h
  ·obtain rfl:=bx h;rfl
  ·cases h
def amK:∀f,(∀l x,bP f 1 l=some x->2*nq x.2+x.1.length<=l.length)/\(∀l x,bP f 2 l=some x->2*nq x.2+x.1.length<=l.length):=by
 intro f;induction f with
 | zero=>exact⟨(fun l x h=>by cases h),(fun l x h=>by cases h)⟩
 | succ f aH=>
  obtain⟨cn,i2⟩:=aH;refine⟨fun l x h=>?_,fun l x h=>?_⟩
  ·rw[bP] at h;have au:=mm l;split at h
   ·obtain⟨a,ak,h⟩:=aV h;obtain rfl:=bx h;have:=cn _ _ ak;show 2*(nq a.2+0+0)+a.1.length<=_;omega
   split at h
   ·obtain⟨a,ak,h⟩:=aV h;obtain⟨b,A,h⟩:=aV h;obtain⟨c,ai,h⟩:=aV h;have h1:=lp ak;have H:=lp ai;have:=i2 _ _ A;obtain rfl:=bx h;show 2*(0+nq b.2)+c.2.length<=_;omega
   split at h
   ·obtain⟨a,ak,h⟩:=aV h;split at h
    ·obtain⟨b,A,h⟩:=aV h;obtain⟨c,ai,h⟩:=aV h;have h1:=cn _ _ ak;have H:=cn _ _ A;have ab:=mm a.1;have aK:=lp ai;obtain rfl:=bx h;show 2*(nq a.2+(nq b.2+0)+0)+c.2.length<=_;omega
    ·cases h
   ·obtain⟨a,ak,h⟩:=aV h;have aw:=W7 _ _ _ ak;have h1:=nD ak;have ab:=mm a.1;split at h
    ·obtain⟨c,ai,h⟩:=aV h;have aK:=lp ai;obtain rfl:=bx h;show 2*(nq a.2+0+0)+c.2.length<=_;omega
    split at h
    ·obtain⟨b,A,h⟩:=aV h;have cO:=W7 _ _ _ A;have aK:=nD A;obtain rfl:=bx h;show 2*(nq a.2+(nq b.2+0)+0)+b.1.length<=_;omega
    ·cases h
  ·rw[bP] at h;obtain⟨a,ak,h⟩:=aV h;obtain⟨b,A,h⟩:=aV h;obtain⟨c,ai,h⟩:=aV h;obtain⟨aq,bb,h⟩:=aV h;obtain⟨y,hy,h⟩:=aV h;obtain⟨g,R,h⟩:=aV h;obtain⟨z,aY,h⟩:=aV h;have h1:=W6 ak;have H:=nD A;have ab:=W6 ai;have aK:=Lj _ _ _ bb;have G1:2*nq y.2+y.1.length<=aq.1.length:=by
    split at hy
    ·have:=mm aq.1;exact bX (cn _ _ hy) this
    ·obtain rfl:=bx hy;show 2*0+aq.1.length<=_;omega
   have ef:g.1.length<=y.1.length:=by
    split at R
    ·obtain⟨dt,rm,R⟩:=aV R;have cO:=lp rm;have cE:=mm y.1;have:=Ss _ _ _ R;omega
    ·obtain rfl:=bx R;exact ap
   have IB:z.1.length<=g.1.length:=by
    split at aY
    ·have:=mm g.1;exact bX (nD aY) this
    ·obtain rfl:=bx aY;exact ap
   obtain rfl:=bx h;show 2*(nq y.2+1)+z.1.length<=_;omega
def kT:List (List (je))->Nat
 | []=>0
 | g::C=>g.length+kT C
def r2:List (List al×List (je))->Nat
 | []=>0
 | x::C=>x.2.length+r2 C
def W8:∀a b,r2 (a++b)=r2 a+r2 b
 | [],b=>by simp[r2]
 | x::C,b=>by rw[List.cons_append,r2,r2,W8 C b];omega
def W9:∀a b,kT (a++b)=kT a+kT b
 | [],b=>by simp[kT]
 | x::C,b=>by rw[List.cons_append,kT,kT,W9 C b];omega
def Xa:∀(gs:List (List (je))) (i:Nat) (c:je),kT (gs.set i (gs.getD i []++[c]))<=kT gs+1
 | [],i,c=>by simp[kT]
 | g::C,0,c=>by simp[kT];omega
 | g::C,i+1,c=>by have:=Xa C i c;rw[List.set_cons_succ,List.getD_cons_succ,kT,kT];omega
def amL(ks:List (List UInt8))(gs:List (List (je)))(key:List UInt8)(c:je):kT (qE ks gs key c).2<=kT gs+1:=by
 unfold qE;split
 ·exact Xa gs _ c
 ·show kT (gs++[[c]])<=_;rw[W9];exact ap
def Xb(f:az->List al×az):∀(l:List (je)) (ks:List (List UInt8)) (gs:List (List (je))) (st:az),kT (qF f l ks gs st).1<=kT gs+l.length
 | [],_,gs,st=>ap
 | c::C,ks,gs,st=>by rw[qF];refine bX (Xb f C _ _ _) ?_;have:=amL ks gs (j6 (f {st with ad:=st.ad++c}).1) c;rw[di];omega
def Xc:∀l:List (je),kT (l.map fun c=>[c])=l.length
 | []=>rfl
 | c::C=>by rw[List.map_cons,kT,Xc C,di];exact Nat.add_comm _ _
def amM(e g h:aL)(f:az->List al×az)(x:az×List (je)):kT (mR e g h f x).1<=x.2.length:=by
 unfold mR;split
 ·split
  ·show x.2.length+0<=_;omega
  ·have:=Xb f x.2 [] [] x.1;simpa [kT] using this
 ·show kT (x.2.map fun c=>[c])<=_;rw[Xc];exact ap
def Xd(a8:az->Bool×az)(ba:az->List al×az):∀(gs:List (List (je))) (aP:List (List al×List (je))) (st:az),r2 (k8 a8 ba gs aP st).1<=r2 aP+kT gs
 | [],aP,st=>ap
 | g::C,aP,st=>by
  rw[k8];split
  ·exact bu
  ·refine bX (Xd a8 ba C _ _) ?_;have h1:r2 (mp a8 ba g st).1<=g.length:=by
    unfold mp;simp only[];split
    ·show g.length+0<=_;omega
    ·exact bu
   rw[W8,kT];omega
def amN(bi:nW B)(dA : -1000000000000<=O)(er:O<=1000000000000)(R:aJ (.query e V wh g h) 2)(cv:mr (.query e V wh g h))(I:List eO)(ag:cB E st.ad)(hw:gI m st):r2 (bR B O (.query e V wh g h) I st).2.1<=20000:=by obtain⟨⟨_,_,_,pf⟩,_⟩:=Ic bi dA er (ym bi dA er (eY wh) wh ap).1 (ym bi dA er (eY h) h ap).1 R cv (I++ea B V) ag hw;rw[Ia];refine bX (Xd _ _ _ _ _) ?_;refine bX (Nat.add_le_add ap (amM e g h _ _)) ?_;show 0+_<=_;omega
end bS
