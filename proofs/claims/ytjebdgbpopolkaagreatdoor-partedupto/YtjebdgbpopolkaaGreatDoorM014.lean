import Derived.Test.YtjebdgbpopolkaaGreatDoorM013
set_option maxHeartbeats 0
set_option maxRecDepth 100000
set_option linter.all false
namespace Go.Proofs.YtjebdgbpopolkaaGreatDoor
open Tryz
open Go.RowKit
open bS
variable{w:World}{k n:Nat}{l:List al}
def aep(L:List Value)(m:Nat)(a b c:Value)(h:m+3<=L.length):(((L.set m a).set (m+1) b).set (m+2) c).take (m+3)=L.take m++[a,b,c]:=by
 obtain⟨P,cm,fa,gA⟩:∃P cm,L=P++cm/\P.length=m:=⟨L.take m,L.drop m,(List.take_append_drop m L).symm,by rw[List.length_take];omega⟩;subst fa gA;match cm,h with
 | x::y::z::C,_=>have Y:P.length+1-P.length=1:=r;have am:P.length+2-P.length=2:=r;have bm:P.length+3-P.length=3:=r;rw[List.set_append_right _ _ ap,List.set_append_right _ _ (Nat.le_succ _),List.set_append_right _ _ r,Nat.sub_self,Y,am,List.take_append,List.take_append,bm,Nat.sub_self,List.take_of_length_le r,List.take_of_length_le ap];simp
 | [],h=>exact absurd h (by simp)
 | [_],h=>exact absurd h (by simp)
 | [_,_],h=>exact absurd h (by simp)
def zF(w:World)(k n:Nat)(l:List al):Prop:=∃ay,w.heap[k]?=some (.cells ay 112 (0,0))/\ay.size=n*3/\ay.toList.take (l.length*3)=fc l
def Ly(l:List al)(v:al):fc (l++[v])=fc l++[q (v.kind:Int),q v.num,.string (a7 v.du)]:=by simp[fc]
def zF.put(h:zF w k n l)(X:l.length<n)(v:al):zF (((w.setCell ⟨k,l.length*3,none⟩ (q (v.kind:Int))).setCell ⟨k,l.length*3+1,none⟩ (q v.num)).setCell ⟨k,l.length*3+2,none⟩ (.string (a7 v.du))) k n (l++[v]):=by
 obtain⟨ay,h1,H,ab⟩:=h;refine⟨((ay.setIfInBounds (l.length*3) (q (v.kind:Int))).setIfInBounds (l.length*3+1) (q v.num)).setIfInBounds (l.length*3+2) (.string (a7 v.du)),?_,?_,?_⟩
 ·simp[World.setCell,Array.getElem?_modify,h1]
 ·simp only[Array.size_setIfInBounds];exact H
 ·have e:(l++[v]).length*3=l.length*3+3:=by simp;omega
  rw[e,Array.toList_setIfInBounds,Array.toList_setIfInBounds,Array.toList_setIfInBounds,aep _ _ _ _ _ (by have hs:ay.toList.length=ay.size:=ax7;omega),ab,Ly]
def zF.row{base:Nat}(h:zF w k n l)(X:l.length=n)(A:base<=k)(ar:n<=2000000):w.ownsRow base 112 3 (.slice (some ⟨k,0,none⟩) n n) l.length (fc l):=by obtain⟨ay,h1,H,ab⟩:=h;subst X;refine⟨?_,.inr ⟨k,l.length,ay,rfl,A,h1,ap,by unfold maxLen;omega,H,ab⟩⟩;have hs:ay.toList.length=ay.size:=ax7;rw[<-ab,List.length_take];omega
def Lz:(prog.info? 112).map (fun i=>(i.zero,i.size,i.bytes))=some (some (.agg #[q 0,q 0,.string ⟨#[]⟩]),3,32):=ax
def zG(w:World)(g:Nat)(ba:e4):Prop:=∀i (h:i<ba.length),dp w g i=some (.string ba[i])
def LA(zH:Nat)(ba:e4)(w:World)(e:Ending)(w':World):Prop:=(match (if ba.length=zH then iq bS.valOf ba else none) with
 | none=>e=.returned (.tuple #[.slice none 0 0,.bool false])
 | some l=>∃k,w.heap.size<=k/\e=.returned (.tuple #[.slice (some ⟨k,0,none⟩) l.length l.length,.bool true])/\w'.ownsRow w.heap.size 112 3 (.slice (some ⟨k,0,none⟩) l.length l.length) l.length (fc l))/\eB w w'
def SQ(b g af zH jw:Nat)(gB:Option Addr)(ba:e4)(w:World)(ai:dp w b 1=some (.slice gB zH jw))(hv:zG w g ba)(R:g<w.heap.size)(X:ba.length<=2000000)(SR:zH<=1000)(hs:∀t∈ba,t.size<=2000000):ey 58 #[M b,.slice (some ⟨g,0,none⟩) ba.length af] w (LA zH ba w):=by
 obtain⟨i0,hi,gj,gx,cd⟩:=info_parts Lz;have fb:=u hv;have gy:=u hs;clear hv hs;by_cases cy:ba.length=zH
 ·subst cy;have SS:=run_make (P:=prog) w 104 112 i0 _ underlying104 hi gj .i64 .i64 (ba.length:Int) (ba.length:Int) r (Int.le_refl _) (by rw[cd];omega) r;rw[Int.toNat_natCast,gx] at SS;have SU:=size_madeCells (Value.agg #[q 0,q 0,.string ⟨#[]⟩]).cells (ba.length*3);generalize madeCells (Value.agg #[q 0,q 0,.string ⟨#[]⟩]).cells (ba.length*3)=D1 at *;have Df:=u SU;clear SU;have qy:=bH w (.cells D1 112);have hK:eB w (w.alloc (.cells D1 112)):=cT;have z0:Hid ((w.alloc (.cells D1 112)).heap.size=w.heap.size+1):=u (by simp);go_enter func58,ntmps58;go_wp2_with fail;generalize w.alloc (.cells D1 112)=W at *;clear SS
  go_loopg [24] (ba.length+1) (fun U i wr=>∃(j:Nat) (l:List al),j<=ba.length/\i=q (j:Int)/\Hid (l.length=j/\iq bS.valOf (ba.take j)=some l)/\zF wr w.heap.size ba.length l/\eB w wr/\ba.length-j<U);case atStart=>exact⟨0,[],bu,rfl,u ⟨rfl,rfl⟩,⟨D1,qy,Df.d,rfl⟩,hK,r⟩
  case round=>
   obtain⟨j,l,aS,rfl,dI,LB,A,ae⟩:=hrel;by_cases aD:j<ba.length
   ·have cL:(j:Int)<(ba.length:Int):=r;have lS:dp wr g j=some (.string ba[j]):=(World.cell?_of_block (A.block g R)).trans (fb.d j aD);have ff:=gy.d _ (ec aD);have zD:iq bS.valOf (ba.take (j+1))=(bS.valOf ba[j]).bind fun y=>some (l++[y]):=by rw[jD aD,QP,dI.d.2];rfl
    have tR:=u zD;have zE:=u (ec aD);have sB:=u (Gz ba[j] wr ff);have ch:=u ae;have sz:=u dI.d.1;have fr:IntKind.i64.wrap ((j:Int)+1)=(j:Int)+1:=mC;have He:=A.size;clear zD ae dI;have x8:Hid (bS.valOf ba[j]=if (fy ba[j].data.toList).2 then some (fy ba[j].data.toList).1 else none):=u rfl;generalize ba[j]=p at *;generalize fy p.data.toList=cm at *;obtain⟨v,ok⟩:=cm;cases ok with
    | false=>have nv:Hid (bS.valOf p=none):=u x8.d;clear x8;go_wp2_with (go_at_call 94;refine sB.d.mono ?_;rintro e S ⟨rfl,ah⟩;simp only[cb]);go_ret2;refine⟨?_,(A.trans (ah.mono He)).alloc (by have:=ah.size;omega) _⟩;rw[if_pos rfl,QQ bS.valOf _ _ zE.d nv.d];rfl
    | true=>
     have aeq:Hid (bS.valOf p=some v):=u x8.d;clear x8;go_upto_region 10 with(go_at_call 94;refine sB.d.mono ?_;rintro e S ⟨rfl,ah⟩;simp only[cb]);have cg:eB wr (S.alloc (.cells #[q (v.kind:Int),q v.num,.string (a7 v.du)] 112)):=ah.alloc (by have:=ah.size;omega) _;have fq:=bH S (.cells #[q (v.kind:Int),q v.num,.string (a7 v.du)] 112);have z2:=ah.size;generalize S.alloc (.cells #[q (v.kind:Int),q v.num,.string (a7 v.du)] 112)=lu at *;have aer:w.heap.size<wr.heap.size:=by obtain⟨ay,h1,_⟩:=LB;exact(br h1).1
     have SV:zF lu w.heap.size ba.length l:=by obtain⟨ay,h1,H⟩:=LB;exact⟨ay,(cg.block _ aer).trans h1,H⟩
     have ww:=SV.put (by rw[sz.d];exact aD) v;obtain rfl:l.length=j:=sz.d;have dN:dp lu S.heap.size 0=some (q (v.kind:Int)):=Z fq (i:=0) rfl;have bz:dp lu S.heap.size 1=some (q v.num):=Z fq (i:=1) rfl;have cz:dp lu S.heap.size 2=some (.string (a7 v.du)):=Z fq (i:=2) rfl;obtain⟨ay,aI,aZ,a6⟩:=SV;have pM:dp lu w.heap.size (l.length*3)=some (ay[l.length*3]'r):=Z aI (Array.getElem?_eq_getElem _);have h0:dp lu w.heap.size (l.length*3+1)=some (ay[l.length*3+1]'r):=Z aI (Array.getElem?_eq_getElem _);have gR:dp lu w.heap.size (l.length*3+2)=some (ay[l.length*3+2]'r):=Z aI (Array.getElem?_eq_getElem _);have g0:lu.frozen? ⟨w.heap.size,l.length*3,none⟩=false:=aQ aI
     have g1:lu.frozen? ⟨w.heap.size,l.length*3+1,none⟩=false:=aQ aI;have g2:lu.frozen? ⟨w.heap.size,l.length*3+2,none⟩=false:=aQ aI;generalize ay[l.length*3]'r=k6 at *;generalize ay[l.length*3+1]'r=q1 at *;generalize ay[l.length*3+2]'r=bN at *;clear lS aZ a6 sB;go_wp2_with fail;have ae:=ch.d;go_roundg (ba.length-l.length);case measure=>omega
     case rel=>exact⟨l.length+1,l++[v],r,by go_num,u ⟨by simp,by rw[tR.d,aeq.d];rfl⟩,ww,(((A.trans (cg.mono He)).setCell ap _).setCell ap _).setCell ap _,r⟩
   ·have cL:(ba.length:Int)<=(j:Int):=r;have sr:j=ba.length:=r;have sA:Hid (iq bS.valOf ba=some l/\l.length=ba.length):=u ⟨by rw[<-dI.d.2,sr,List.take_length],by rw[dI.d.1];exact sr⟩;clear ae dI sr;go_wp2_with fail;go_ret2;refine⟨?_,A⟩;rw[if_pos rfl,sA.d.1];have ag:=LB.row (base:=w.heap.size) sA.d.2 ap X;rw[<-sA.d.2] at ag;exact⟨w.heap.size,ap,by rw[sA.d.2];rfl,ag⟩
 ·have aes:¬(ba.length:Int)=(zH:Int):=r;have LC:=u cy;clear cy;go_enter func58,ntmps58;go_wp2_with fail;go_ret2;refine⟨?_,Below.refl _ _⟩;rw[if_neg LC.d];rfl
def aet(s:e6)(a:Option Addr)(n af:Nat)(w:World)(hs:s.size<=2000000):ey 33 #[.string s,.slice a n af] w fun e w'=>∃k,w.heap.size<=k/\e=.returned (M k)/\w'.heap[k]?=some (.cells #[.string s,.slice a n af,.slice none 0 0,q 0] 137 (0,0))/\eB w w':=by go_enter func33,ntmps33;go_wp2_with (go_at_call 48;refine(Km s w hs).mono ?_;rintro e S ⟨rfl,ah⟩);go_ret;exact⟨S.heap.size,ah.size,rfl,bH S _,ah.alloc ah.size _⟩
