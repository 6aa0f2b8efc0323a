import Derived.Test.YtjebdgbpopolkaaGreatDoorM024
import Derived.Test.YtjebdgbpopolkaaGreatDoorM025
import Derived.Shelf.SlSortCmp.NoneTotal
set_option maxHeartbeats 0
set_option maxRecDepth 100000
set_option linter.all false
namespace Go.Proofs.YtjebdgbpopolkaaGreatDoor
open Tryz
open Go.RowKit Go.Sort Go.Shelf
open bS
variable{w:World}{base af g:Nat}{E:TypeId}{c:List fo}
def dX(x:fo):List Value:=[.string x.1,q x.2]
def yw(x:fo):(dX x).length=2:=rfl
def Vd(x:fo):∀v∈dX x,v.oneCell'=true:=by intro v hv;unfold dX at hv;simp only[List.mem_cons,ax4,or_false] at hv;rcases hv with rfl | rfl<;>rfl
def Ve(x y:fo):El x y=hf x y:=by
 unfold El hf sR j5 j5 j5;rw[NU];have e:∀a b:Int,Lib.compareInt a b=pO a b:=fun a b=>rfl;rw[e];split
 ·split<;>simp_all
 ·rfl
def Vf{α:Type}{ew:α->α->Int}(h:Ord ew):SWO (ltOf ew):=by
 refine⟨fun x=>?_,fun x y z h1 H=>?_,fun x y z h1 H=>?_⟩<;>unfold ltOf at *
 ·rw[h.refl];decide
 ·simp only[decide_eq_true_eq] at *;exact h.lt r r (.inl h1)
 ·simp only[decide_eq_false_iff_not] at *;have bq:=h.mX x y;have a2:=h.mX y z;have a3:=h.mX x z;have:=h.trans z y x r r;omega
def Vg:∀args w,(callFunc 81 args).run prog w=.ok (.enter 81 args) w:=enters_of func81 ax rfl
def ai3(w:World):(isAgg 40).run prog w=.ok true w:=ax
def ai4(w:World):(Go.sizeOf 40).run prog w=.ok 2 w:=ax
def ai5(Iy off size:Nat)(w:World):CmpLays prog 81 #[] dX 2 hf Iy off size w:=fun m os nQ hs x y=>(Tt x y _).mono fun e w' ⟨h1,Fg,H⟩=>⟨by rw[h1,Ve],1,Fg,H⟩
def Vh{α:Type}[Inhabited α]{ew:α->α->Int}{aq iA:Array α}(aj:PermIn 0 aq.size aq iA)(hs:SortedIn (ltOf ew) 0 aq.size iA):iA.toList.Perm aq.toList/\Ak ew iA.toList:=by
 obtain⟨h1,_,ab⟩:=aj;have Y:aq.extract 0 aq.size=aq:=by simp
 have am:iA.extract 0 aq.size=iA:=by rw[<-h1];simp
 rw[Y,am] at ab;refine⟨ab,List.pairwise_iff_getElem.2 (fun i j hi aS tQ=>?_)⟩;have lv:j<iA.size:=by simpa using aS
 have fM:i<iA.size:=by simpa using hi
 have:=hs i j bu tQ r;rw[getElem!_pos iA j lv,getElem!_pos iA i fM] at this;unfold ltOf at this;simpa using this
def ai6(v:Value)(l:List fo)(base:Nat)(w:World)(ag:w.ownsRow base 40 2 v l.length (l.flatMap dX))(X:l.length<=1000000000):ey 86 #[v,.func (.func 81) #[] #[]] w fun e w'=>e=.returned (.tuple #[])/\w'.ownsRow base 40 2 v l.length ((kM hf l).flatMap dX)/\Below base w w':=by
 rcases ag.2 with⟨rfl,aY⟩ | ⟨g,af,ay,rfl,_⟩
 ·have rn:l=[]:=ma aY;subst rn;refine(show ey 86 #[.slice none 0 0,.func (.func 81) #[] #[]] w _ from AnyF.slices_SortFunc_none Tryz.Uu none 0 _ w).mono ?_;rintro e w' ⟨rfl,rfl⟩;have c7:kM hf ([]:List fo)=[]:=by unfold kM;simp
  rw[c7];exact⟨rfl,ag,Below.refl _ _⟩
 ·obtain⟨hH,R⟩:=Uy dX 2 K yw ag;have Iz:=AnyQ.slices_SortFunc Tryz.Uu 2 ai3 ai4 dX yw Vd hf (Vf vl) 81 #[] g 0 af l.toArray w Vg (ai5 g 0 l.toArray.size w) hH R (by simp;omega);refine(show ey 86 #[.slice (some ⟨g,0,none⟩) l.length af,.func (.func 81) #[] #[]] w _ from Iz).mono ?_;rintro e w' ⟨rfl,iA,n,os,aj,hs,rfl⟩;obtain⟨p1,p2⟩:=Vh aj hs;have Y:iA.toList=kM hf l:=UI vl (fun _ _=>Ng) p1 p2;obtain⟨cX,cA⟩:=Ux dX 2 K yw (n:=n) ag iA Y (by rw[(sS hf l).length_eq]) os;exact⟨rfl,cX,cA⟩
def Vi(a b:e6)(m n:Int)(w:World):(Op.equalIn 10000 40 (.agg #[.string a,q m]) (.agg #[.string b,q n])).run prog w=.ok (decide ((a,m)=(b,n))) w:=by
 have u3:=underlying3;have a3:=Tryz.isAgg3;have z3:=Tryz.sizeOf3;have u4:=underlying9;have a4:=Tryz.isAgg9;have z4:=Tryz.sizeOf9;have cv:prog.underlying 40=some (.struct (prog.fieldsOf 40)):=ax;have aj:prog.stoodInHeld 40=false:=ax;rw[show(10000:Nat)=9999+1 from rfl,run_equalIn_agg w 9999 40 _ _ cv aj];simp only[Program.fieldsOf,underlying40];go_simp;by_cases h1:a=b
 ·subst h1;by_cases H:m=n<;>simp[H]
 ·have ab:a.toList≠b.toList:=fun e=>h1 (toList_inj e);simp[h1,ab]
def ai7{P:Program}(w:World)(t e ty:TypeId)(x y:Value)(m:Nat)(hm:0<m)(au:P.underlying t=some (.slice e))(hv:∀w,(zeroValue e).run P w=.ok (.agg #[x,y]) w)(aa:x.oneCell'=true)(hy:y.oneCell'=true)(b o c:Nat)(ai:∀j,j<m*2->(dp w b (o+j)).isSome=true)(av:∀j,j<m*2->w.frozen? ⟨b,o+j,none⟩=false):∃zs:List Value,zs.length=m*2/\(Builtin.clear_ #[t] ty #[.slice (some ⟨b,o,none⟩) m c]).run P w=.ok (.tuple #[]) (w.setCells b o zs):=by
 have X:(Builtin.zeroCells (Value.agg #[x,y]).cells m).toList.length=m*2:=by rw[ax7,size_zeroCells];have:(Value.agg #[x,y]).cells.size=2:=rfl;rw[this]
 have tZ:∀v∈(Builtin.zeroCells (Value.agg #[x,y]).cells m).toList,v.oneCell'=true:=by
  intro v Hj;have nT:v∈Builtin.zeroCells (Value.agg #[x,y]).cells m:=by simpa using Hj
  unfold Builtin.zeroCells at nT;obtain⟨i,_,rfl⟩:=Array.mem_map.1 nT;have hs:(Value.agg #[x,y]).cells.size=2:=rfl;rw[hs];rcases(by omega:i%2=0\/i%2=1) with e | e<;>rw[e]
  ·exact aa
  ·exact hy
 have c4:=run_storeCells_cells (P:=P) b o (Builtin.zeroCells (Value.agg #[x,y]).cells m).toList 0 w (by intro j aS;rw[X] at aS;simpa using ai j aS) (by intro j aS;rw[X] at aS;simpa using av j aS) tZ;simp only[Nat.add_zero] at c4;generalize aY:(Builtin.zeroCells (Value.agg #[x,y]).cells m).toList=zs at *;refine⟨zs,X,?_⟩;obtain⟨pQ,rfl⟩:∃pQ,m=pQ+1:=⟨m-1,r⟩;simp[Builtin.clear_,run_underlying au,hv,aY,c4]
def dO(l:List fo):Nat->List fo
 | 0=>[]
 | 1=>l.take 1
 | j+2=>if l[j+1]?=l[j]? then dO l (j+1) else dO l (j+1)++(l.drop (j+1)).take 1
def p7(l:List fo):List fo:=dO l l.length
def N2{l:List fo}{j:Nat}(aw:1<=j)(h:j<l.length):dO l (j+1)=if l[j]=l[j-1] then dO l j else dO l j++[l[j]]:=by obtain⟨i,rfl⟩:∃i,j=i+1:=⟨j-1,r⟩;rw[dO,fC h,fC (by omega:i<l.length),List.drop_eq_getElem_cons h,List.take_succ_cons,List.take_zero];simp only[Option.some.injEq,Nat.add_sub_cancel]
def Vj:∀(c:List fo) (i:Nat) (x:fo),i<c.length->((c.flatMap dX).set (i*2) (.string x.1)).set (i*2+1) (q x.2)=(c.set i x).flatMap dX
 | [],_,_,h=>absurd h (fp _)
 | a::C,0,x,_=>rfl
 | a::C,i+1,x,h=>by have aH:=Vj C i x (by simpa using h);have e:(a::C).flatMap dX=.string a.1::q a.2::C.flatMap dX:=rfl;rw[e,show(i+1)*2+1=(i*2+1)+1+1 by omega,show(i+1)*2=i*2+1+1 by omega];simp only[List.set_cons_succ];rw[aH];rfl
def ai8(ag:w.ownsRow base E 2 (.slice (some ⟨g,0,none⟩) c.length af) c.length (c.flatMap dX))(i:Nat)(hi:i<c.length)(x:fo):((w.setCell ⟨g,i*2,none⟩ (.string x.1)).setCell ⟨g,i*2+1,none⟩ (q x.2)).ownsRow base E 2 (.slice (some ⟨g,0,none⟩) c.length af) c.length ((c.set i x).flatMap dX)/\Below base w ((w.setCell ⟨g,i*2,none⟩ (.string x.1)).setCell ⟨g,i*2+1,none⟩ (q x.2)):=by
 rcases ag.2 with⟨e,_⟩ | ⟨dM,cJ,ay,e,q1,bN,fR,iK,j4,km⟩
 ·cases e
 injection e with Y _ bm;injection Y with Y;injection Y with Y;subst Y bm;refine⟨⟨by rw[B9 dX 2 yw,List.length_set],.inr ⟨g,af,_,rfl,q1,hc (hc bN _) _,fR,iK,by rw[Array.size_setIfInBounds,Array.size_setIfInBounds];exact j4,?_⟩⟩,((Below.refl base w).setCell (p:=⟨g,i*2,none⟩) q1 _).setCell (p:=⟨g,i*2+1,none⟩) q1 _⟩;rw[Array.toList_setIfInBounds,Array.toList_setIfInBounds,List.take_set,List.take_set,km,Vj c i x hi]
def As(ag:w.ownsRow base E 2 (.slice (some ⟨g,0,none⟩) c.length af) c.length (c.flatMap dX))(i:Nat)(hi:i<c.length):dp w g (i*2)=some (.string c[i].1)/\dp w g (i*2+1)=some (q c[i].2)/\w.frozen? ⟨g,i*2,none⟩=false/\w.frozen? ⟨g,i*2+1,none⟩=false:=by
 have aw:=sP dX 2 K yw c (i*2) r;have h1:=sP dX 2 K yw c (i*2+1) r;rw[show i*2/2=i by omega,show i*2%2=0 by omega,getElem!_pos c i hi] at aw;rw[show(i*2+1)/2=i by omega,show(i*2+1)%2=1 by omega,getElem!_pos c i hi] at h1;have bk:=ag.cells rfl _ _ aw;have c1:=ag.cells rfl _ _ h1;rw[Addr.add_lit,ax1] at bk c1;rcases ag.2 with⟨e,_⟩ | ⟨dM,cJ,ay,e,q1,bN,_⟩
 ·cases e
 injection e with Y _ bm;injection Y with Y;injection Y with Y;subst Y;exact⟨bk,c1,aQ bN,aQ bN⟩
def ai9(g af base:Nat)(l:List fo)(w:World)(ag:w.ownsRow base 40 2 (.slice (some ⟨g,0,none⟩) l.length af) l.length (l.flatMap dX))(X:l.length<=1000000):ey 87 #[.slice (some ⟨g,0,none⟩) l.length af] w fun e w'=>∃v,e=.returned v/\w'.ownsRow base 40 2 v (p7 l).length ((p7 l).flatMap dX)/\Below base w w':=by
 have cK:=u ag;clear ag;by_cases H:l.length<2
 ·have pI:(l.length:Int)<2:=r;have sW:Hid (p7 l=l):=u (by
   unfold p7;match l,H with
   | [],_=>rfl
   | [x],_=>rfl)
  rw[sW.d];go_enter func87,ntmps87;go_wp2_with fail;go_ret;exact⟨_,rfl,cK.d,Below.refl _ _⟩
 ·have pI:¬(l.length:Int)<2:=r;have Rv:(2:Int)<=(l.length:Int):=r;have qn:prog.eqGuardType prog.depth 40=false:=ax;have aja:Hid (dO l 1=l.take 1):=u rfl;go_enter func87,ntmps87;go_upto_region 4 with fail;go_loopg [3] (l.length+1) (fun U i wr=>∃k:Nat,1<=k/\k<=l.length/\i=q (k:Int)/\Hid (dO l k=l.take k)/\Hid (wr.ownsRow base 40 2 (.slice (some ⟨g,0,none⟩) l.length af) l.length (l.flatMap dX))/\Hid (Below base w wr)/\l.length-k<U);case atStart=>exact⟨1,ap,r,rfl,aja,cK,u (Below.refl _ _),r⟩
  case round=>
   obtain⟨k,bZ,dR,rfl,Cl,jA,bc,ae⟩:=hrel;by_cases aD:k<l.length
   ·have cL:(k:Int)<(l.length:Int):=r;obtain⟨bk,c1,f0,f1⟩:=As jA.d k aD;obtain⟨d0,d1,-,-⟩:=As jA.d (k-1) r;have c4:=N2 bZ aD;have sU:IntKind.i64.wrap ((k:Int)-1)=((k-1:Nat):Int):=by rw[IntKind.wrap_i64];omega
    have ass:IntKind.i64.wrap ((k:Int)+1)=(k:Int)+1:=mC;have ast:((k-1:Nat):Int)<(l.length:Int):=r;have E:=Vi l[k].1 l[k-1].1 l[k].2 l[k-1].2;by_cases heq:l[k]=l[k-1]
    ·rw[if_pos heq] at c4;have Fh:∀w,(Op.equalIn 10000 40 (.agg #[.string l[k].1,q l[k].2]) (.agg #[.string l[k-1].1,q l[k-1].2])).run prog w=.ok true w:=fun w=>by rw[E w,heq];simp
     have so:dO l (k+1)=l.take k:=by rw[c4,Cl.d]
     have ajb:=u so;have Vk:(dO l (k+1)).length=k:=by rw[so,List.length_take];omega
     have ch:=u ae;have ut:¬af=k:=by
      rcases jA.d.2 with⟨e,_⟩ | ⟨dM,cJ,ay,e,_,_,fR,_⟩
      ·cases e
      ·injection e with _ _ bm;omega
     have pN:(l.length:Int)<=(af:Int):=by
      rcases jA.d.2 with⟨e,_⟩ | ⟨dM,cJ,ay,e,_,_,fR,_⟩
      ·cases e
      ·injection e with _ _ bm;omega
     clear c4 ae E heq Cl so;generalize l[k].1=ha at *;generalize l[k].2=B5 at *;generalize l[k-1].1=jJ at *;generalize l[k-1].2=H0 at *;go_upto_region 6 with fail;go_quiet (fail);have BV:Hid ((wr.drewN nq).ownsRow base 40 2 (.slice (some ⟨g,0,none⟩) l.length af) l.length (l.flatMap dX)):=u (by exact jA.d);have IA:Hid (Below base w (wr.drewN nq)):=u (by exact⟨bc.d.os,bc.d.tape,bc.d.output,bc.d.size,bc.d.block⟩);clear bk c1 f0 f1 d0 d1 Fh;generalize wr.drewN nq=lu at *;go_upto_region 9 with fail;have asu:=ch.d
     go_loopg [3,5] (l.length+1) (fun U ze ajc wr=>∃(aq:Nat) (c:List fo),1<=aq/\k+aq<=l.length/\ze=q ((dO l (k+aq)).length:Int)/\ajc=q (aq:Int)/\Hid (c.length=l.length/\c.take (dO l (k+aq)).length=dO l (k+aq)/\c.drop (k+aq-1)=l.drop (k+aq-1)/\(dO l (k+aq)).length<=k+aq-1)/\Hid (wr.ownsRow base 40 2 (.slice (some ⟨g,0,none⟩) l.length af) l.length (c.flatMap dX))/\Hid (Below base w wr)/\l.length-(k+aq)<U);case atStart=>exact⟨1,l,ap,r,by rw[Vk],rfl,u ⟨rfl,by rw[Vk,ajb.d],rfl,r⟩,BV,IA,r⟩
     case round=>
      obtain⟨aq,c,o6,yx,rfl,rfl,ai,rW,mV,kL⟩:=hrel;obtain⟨bz,cz,fP,mq⟩:=ai.d;have yy:=rW.d;rw[<-bz] at yy;have N3:(dO l (k+aq)).length<c.length:=r;by_cases hE:k+aq<l.length
      ·have ajd:(aq:Int)<((l.length-k:Nat):Int):=r;have g1:c[k+aq]'r=l[k+aq]:=by have:=congrArg (fun z=>z[1]?) fP;simp only[List.getElem?_drop] at this;rw[show k+aq-1+1=k+aq by omega,fC r,fC hE] at this;injection this
       have g0:c[k+aq-1]'r=l[k+aq-1]:=by have:=congrArg (fun z=>z[0]?) fP;simp only[List.getElem?_drop] at this;rw[Nat.add_zero,fC r,fC r] at this;injection this
       obtain⟨bk,c1,-,-⟩:=As yy (k+aq) r;obtain⟨d0,d1,-,-⟩:=As yy (k+aq-1) r;obtain⟨c7,Y,f0,f1⟩:=As yy (dO l (k+aq)).length N3;rw[g1] at bk c1;rw[g0] at d0 d1;rw[show(k+aq)*2=k*2+aq*2 by omega] at bk c1;rw[show(k+aq-1)*2=k*2+(aq-1)*2 by omega] at d0 d1;have c4:=N2 (l:=l) (j:=k+aq) r hE;have asv:IntKind.i64.wrap ((aq:Int)-1)=((aq-1:Nat):Int):=by rw[IntKind.wrap_i64];omega
       have asw:IntKind.i64.wrap ((aq:Int)+1)=(aq:Int)+1:=mC;have asx:((aq-1:Nat):Int)<((l.length-k:Nat):Int):=r;have E:=Vi l[k+aq].1 l[k+aq-1].1 l[k+aq].2 l[k+aq-1].2;by_cases heq:l[k+aq]=l[k+aq-1]
       ·rw[if_pos heq] at c4;have Fh:∀w,(Op.equalIn 10000 40 (.agg #[.string l[k+aq].1,q l[k+aq].2]) (.agg #[.string l[k+aq-1].1,q l[k+aq-1].2])).run prog w=.ok true w:=fun w=>by rw[E w,heq];simp
        have iz:Hid (dO l (k+(aq+1))=dO l (k+aq)):=u c4;have mo:Hid (c.length=l.length/\c.take (dO l (k+aq)).length=dO l (k+aq)/\c.drop (k+(aq+1)-1)=l.drop (k+(aq+1)-1)/\(dO l (k+aq)).length<=k+(aq+1)-1):=u ⟨bz,cz,(by
         have:=congrArg (List.drop 1) fP;rw[List.drop_drop,List.drop_drop,show k+aq-1+1=k+(aq+1)-1 by omega] at this;exact this),r⟩
        have wY:=u kL;have tV:=u o6;have JP:=u hE;clear E heq ai g1 g0 yy kL c4;generalize l[k+aq].1=ha at *;generalize l[k+aq].2=B5 at *;generalize l[k+aq-1].1=jJ at *;generalize l[k+aq-1].2=H0 at *;try clear bz cz fP
        generalize lP:(dO l (k+aq)).length=bV at *;have jF:=u lP;clear lP;go_upto_region 11 with fail;go_quiet (fail);have Au:Hid ((wr.drewN nq).ownsRow base 40 2 (.slice (some ⟨g,0,none⟩) l.length af) l.length (c.flatMap dX)):=u (by exact rW.d);have aje:Hid (Below base w (wr.drewN nq)):=u (by exact⟨mV.d.os,mV.d.tape,mV.d.output,mV.d.size,mV.d.block⟩);go_wp2_with fail;have kL:=wY.d;have hE:=JP.d;go_roundg (gk-1);case measure=>omega
        case rel=>exact⟨aq+1,c,r,r,by rw[iz.d,jF.d],by go_num,u (by rw[iz.d,jF.d];exact mo.d),Au,aje,r⟩
       ·rw[if_neg heq] at c4;have Fh:∀w,(Op.equalIn 10000 40 (.agg #[.string l[k+aq].1,q l[k+aq].2]) (.agg #[.string l[k+aq-1].1,q l[k+aq-1].2])).run prog w=.ok false w:=fun w=>by rw[E w,ax2];intro e;exact heq (Prod.ext (by injection e) (by injection e))
        have iz:Hid (dO l (k+(aq+1))=dO l (k+aq)++[l[k+aq]]):=u c4;have mo:Hid ((c.set (dO l (k+aq)).length l[k+aq]).length=l.length/\(c.set (dO l (k+aq)).length l[k+aq]).take ((dO l (k+aq)).length+1)=dO l (k+aq)++[l[k+aq]]/\(c.set (dO l (k+aq)).length l[k+aq]).drop (k+(aq+1)-1)=l.drop (k+(aq+1)-1)/\(dO l (k+aq)).length+1<=k+(aq+1)-1):=u ⟨by rw[List.length_set];exact bz,(by
         rw[jD (by rw[List.length_set];exact N3),List.getElem_set_self,List.take_set_of_le ap,cz]),(by
         rw[List.drop_set_of_lt r];have:=congrArg (List.drop 1) fP;rw[List.drop_drop,List.drop_drop,show k+aq-1+1=k+(aq+1)-1 by omega] at this;exact this),r⟩
        have Au:Hid (∀nq,(((wr.drewN nq).setCell ⟨g,(dO l (k+aq)).length*2,none⟩ (.string l[k+aq].1)).setCell ⟨g,(dO l (k+aq)).length*2+1,none⟩ (q l[k+aq].2)).ownsRow base 40 2 (.slice (some ⟨g,0,none⟩) l.length af) l.length ((c.set (dO l (k+aq)).length l[k+aq]).flatMap dX)/\Below base w (((wr.drewN nq).setCell ⟨g,(dO l (k+aq)).length*2,none⟩ (.string l[k+aq].1)).setCell ⟨g,(dO l (k+aq)).length*2+1,none⟩ (q l[k+aq].2))):=u (fun nq=>by
         have aY:(wr.drewN nq).ownsRow base 40 2 (.slice (some ⟨g,0,none⟩) c.length af) c.length (c.flatMap dX):=by exact yy
         obtain⟨bq,a2⟩:=ai8 aY _ N3 l[k+aq];rw[bz] at bq;exact⟨bq,(show Below base w (wr.drewN nq) from⟨mV.d.os,mV.d.tape,mV.d.output,mV.d.size,mV.d.block⟩).trans a2⟩)
        have ajf:(((dO l (k+aq)).length:Nat):Int)<(l.length:Int):=r;have asy:IntKind.i64.wrap (((dO l (k+aq)).length:Int)+1)=((dO l (k+aq)).length:Int)+1:=mC;have ajg:Hid (l[k+aq]=l[k+aq]):=u rfl;have wY:=u kL;have tV:=u o6;have JP:=u hE;clear E heq ai g1 g0 yy kL c4 ajg;generalize l[k+aq]=dB at *;obtain⟨ha,B5⟩:=dB;simp only[] at bk c1 Fh Au;generalize l[k+aq-1].1=jJ at *;generalize l[k+aq-1].2=H0 at *;try clear bz cz fP
        generalize lP:(dO l (k+aq)).length=bV at *;have jF:=u lP;clear lP;go_upto_region 11 with fail;go_quiet (fail);go_wp2_with fail;have kL:=wY.d;have hE:=JP.d;go_roundg (gk-1);case measure=>omega
        case rel=>exact⟨aq+1,c.set bV (ha,B5),r,r,by rw[iz.d,cu,jF.d];push_cast;rfl,by go_num,u (by rw[iz.d,cu,jF.d];exact mo.d),u (by exact(Au.d nq).1),u (by exact(Au.d nq).2),r⟩
      ·have C6:k+aq=l.length:=r;have Vl:p7 l=dO l (k+aq):=by unfold p7;rw[C6]
       have sW:=u Vl;rcases rW.d.2 with⟨e,_⟩ | ⟨dM,cJ,ay,e,cX,cA,AV,Ch,yr,Cg⟩
       ·cases e
       injection e with Y _ bm;injection Y with Y;injection Y with Y;subst Y bm;have asz:(dO l (k+aq)).length<l.length:=r;obtain⟨zs,b3,z2⟩:=ai7 (P:=prog) wr 35 40 0 (.string ⟨#[]⟩) (q 0) (l.length-(dO l (k+aq)).length) r underlying35 Tryz.zeroValue40 rfl rfl g ((dO l (k+aq)).length*2) (af-(dO l (k+aq)).length) (fun j aS=>by simp[World.cell?,cA,Array.getElem?_eq_getElem (show(dO l (k+aq)).length*2+j<ay.size by rw[yr];omega)]) (fun j aS=>by simp[World.frozen?,cA]);have E6:∀ty,(Builtin.clear_ #[35] ty #[.slice (some ⟨g,(dO l (k+aq)).length*2,none⟩) (l.length-(dO l (k+aq)).length) (af-(dO l (k+aq)).length)]).run prog wr=.ok (.tuple #[]) (wr.setCells g ((dO l (k+aq)).length*2) zs):=fun ty=>z2
       obtain⟨Hk,ah,ep,nN⟩:=Hh g 40 zs ((dO l (k+aq)).length*2) wr ay cA (by rw[b3,yr];omega);obtain⟨cN,bL,fS,jg⟩:=Hi g zs ((dO l (k+aq)).length*2) wr;have ajh:Hid (Below base w (wr.setCells g ((dO l (k+aq)).length*2) zs)):=u (mV.d.trans ⟨cN,bL,fS,Nat.le_of_eq jg.symm,fun j aS=>Hg g _ _ _ j r⟩);have Av:Hid ((wr.setCells g ((dO l (k+aq)).length*2) zs).ownsRow base 40 2 (.slice (some ⟨g,0,none⟩) (dO l (k+aq)).length af) (dO l (k+aq)).length ((dO l (k+aq)).flatMap dX)):=u (by
        refine⟨B9 dX 2 yw _,.inr ⟨g,af,Hk,rfl,cX,ah,r,Ch,by rw[ep];exact yr,?_⟩⟩;have sq:ay.toList.length=af*2:=by rw[ax7,yr]
        rw[nN,List.append_assoc,List.take_append_of_le_length (by rw[List.length_take];omega),List.take_take,Nat.min_self];have lq:ay.toList.take ((dO l (k+aq)).length*2)=(ay.toList.take (l.length*2)).take ((dO l (k+aq)).length*2):=by rw[List.take_take,Nat.min_eq_left r]
        rw[lq,Cg];have pe:c.flatMap dX=(c.take (dO l (k+aq)).length).flatMap dX++(c.drop (dO l (k+aq)).length).flatMap dX:=by rw[<-List.flatMap_append,List.take_append_drop]
        rw[pe,cz,List.take_left' (B9 dX 2 yw _)])
       have asA:¬af=(dO l (k+aq)).length:=r;have ajf:((dO l (k+aq)).length:Int)<=(l.length:Int):=r;have asB:((dO l (k+aq)).length:Int)<=(af:Int):=r;have ajd:¬((aq:Int)<((l.length-k:Nat):Int)):=r;have asC:((l.length-k:Nat):Int)<=(aq:Int):=r;clear z2 ah ep nN cN bL fS jg Cg cz fP mq rW yy ai kL Vl;generalize lP:(dO l (k+aq)).length=bV at *;have jF:=u lP;clear lP;go_wp2_with fail;go_ret;rw[sW.d];refine⟨_,rfl,?_,ajh.d⟩;rw[jF.d];exact Av.d
    ·rw[if_neg heq] at c4;have Fh:∀w,(Op.equalIn 10000 40 (.agg #[.string l[k].1,q l[k].2]) (.agg #[.string l[k-1].1,q l[k-1].2])).run prog w=.ok false w:=fun w=>by rw[E w,ax2];intro e;exact heq (Prod.ext (by injection e) (by injection e))
     have iz:Hid (dO l (k+1)=l.take (k+1)):=u (by rw[c4,Cl.d,jD aD]);have ch:=u ae;clear c4 ae E heq Cl;generalize l[k].1=ha at *;generalize l[k].2=B5 at *;generalize l[k-1].1=jJ at *;generalize l[k-1].2=H0 at *;go_upto_region 6 with fail;go_quiet (fail);go_wp2_with fail;have ae:=ch.d;go_roundg (l.length-k);case measure=>omega
     case rel=>exact⟨k+1,r,r,by go_num,iz,u (by exact jA.d),u (by exact⟨bc.d.os,bc.d.tape,bc.d.output,bc.d.size,bc.d.block⟩),r⟩
   ·have vq:k=l.length:=r;subst vq;have cL:(l.length:Int)<=(l.length:Int):=r;have sW:Hid (p7 l=l):=u (by unfold p7;rw[Cl.d,List.take_length]);clear ae Cl;go_wp2_with fail;go_ret;rw[sW.d];exact⟨_,rfl,jA.d,bc.d⟩
def aji(w:World):ey 87 #[.slice none 0 0] w (ov w (.slice none 0 0)):=by go_enter func87,ntmps87;go_wp2_with fail;go_ret;exact⟨rfl,rfl⟩
def ajj(v:Value)(base:Nat)(l:List fo)(w:World)(ag:w.ownsRow base 40 2 v l.length (l.flatMap dX))(X:l.length<=1000000):ey 87 #[v] w fun e w'=>∃cF,e=.returned cF/\w'.ownsRow base 40 2 cF (p7 l).length ((p7 l).flatMap dX)/\Below base w w':=by
 rcases ag.2 with⟨rfl,aY⟩ | ⟨g,af,ay,rfl,_⟩
 ·have rn:l=[]:=ma aY;subst rn;refine(aji w).mono ?_;rintro e w' ⟨rfl,rfl⟩;exact⟨_,rfl,ag,Below.refl _ _⟩
 ·exact ai9 g af base l w ag X
def hj(ls:List (List fo)):List fo:=p7 (kM hf ls.flatten)
def ajk(w:World)(sv:Value)(ls:List (List fo)):Prop:=∃vs:List Value,w.ownsRow 0 35 1 sv vs.length vs/\vs.length=ls.length/\∀i (h1:i<vs.length) (H:i<ls.length),w.ownsRow 0 40 2 vs[i] ls[i].length (ls[i].flatMap dX)
def ajl:∀(vs:List Value) (ls:List (List fo)),vs.length=ls.length->jR (List.zipWith (fun v l=>(v,l.length,l.flatMap dX)) vs ls)=ls.flatten.length/\sO (List.zipWith (fun v l=>(v,l.length,l.flatMap dX)) vs ls)=ls.flatten.flatMap dX:=by
 have key:∀(e5:List Nat) (a:Nat),e5.foldl (· + ·) a=a+e5.foldl (· + ·) 0:=fun e5=>by
  induction e5 with
  | nil=>intro a;simp
  | cons x C aH=>intro a;rw[List.foldl_cons,List.foldl_cons,aH (a+x),aH (0+x)];omega
 intro vs;induction vs with
 | nil=>intro ls h;cases ls with
  | nil=>exact⟨rfl,rfl⟩
  | cons=>simp at h
 | cons v C aH=>
  intro ls h;cases ls with
  | nil=>simp at h
  | cons l s=>
   obtain⟨cn,i2⟩:=aH s (by simpa using h);rw[List.zipWith_cons_cons,List.flatten_cons,cu,List.flatMap_append];constructor
   ·rw[<-cn];unfold jR;rw[List.map_cons,List.foldl_cons,key];simp
   ·rw[<-i2];rfl
def Vm(sv:Value)(ls:List (List fo))(w:World)(h:ajk w sv ls)(X:ls.length<=1000000)(au:ls.flatten.length<=1000000):ey 50 #[sv] w fun e w'=>∃v,e=.returned v/\w'.ownsRow w.heap.size 40 2 v (hj ls).length ((hj ls).flatMap dX)/\eB w w':=by
 obtain⟨vs,h1,H,ab⟩:=h;obtain⟨t1,t2⟩:=ajl vs ls H;have IB:(List.zipWith (fun v l=>(v,l.length,l.flatMap dX)) vs ls).length=vs.length:=by rw[List.length_zipWith];omega
 have IC:(List.zipWith (fun v (l:List fo)=>(v,l.length,l.flatMap dX)) vs ls).map (·.1)=vs:=by
  rw[List.map_zipWith];apply List.ext_getElem
  ·rw[List.length_zipWith];omega
  ·intro i a b;rw[List.getElem_zipWith]
 have aN:=ahz sv (List.zipWith (fun v l=>(v,l.length,l.flatMap dX)) vs ls) w (by rw[IC,IB];exact h1) (fun s hs=>by
  obtain⟨i,hi,rfl⟩:=List.getElem_of_mem hs;rw[List.getElem_zipWith];refine⟨ab i r r,fun y hy=>?_⟩;obtain⟨x,_,aa⟩:=List.mem_flatMap.1 hy;exact Vd x y aa) (by rw[t1];exact au) r
 rw[t1,t2] at aN;have ID:Hid (ey 85 #[sv] w fun e J=>∃aC c6 bA,e=.returned (.slice aC c6 bA)/\Hid (J.ownsRow w.heap.size 40 2 (.slice aC c6 bA) ls.flatten.length (ls.flatten.flatMap dX)/\eB w J)):=u (aN.mono (by
  rintro e J ⟨v,rfl,bq,a2⟩;obtain⟨aC,bA,rfl⟩:=cG bq;exact⟨aC,_,bA,rfl,u ⟨bq,a2⟩⟩))
 have hW:=u au;clear aN IC IB t1 t2 h1 H ab au;go_enter func50,ntmps50;go_upto_region 2 with(go_at_call 85;refine ID.d.mono ?_;rintro e J ⟨aC,c6,bA,rfl,aj⟩);have gy:Hid (ey 86 #[.slice aC c6 bA,.func (.func 81) #[] #[]] J fun e S=>e=.returned (.tuple #[])/\Hid (S.ownsRow w.heap.size 40 2 (.slice aC c6 bA) (kM hf ls.flatten).length ((kM hf ls.flatten).flatMap dX)/\eB w S)):=u (by
  refine(ai6 _ ls.flatten w.heap.size J aj.d.1 (by have:=hW.d;omega)).mono ?_;rintro e S ⟨rfl,bq,a2⟩;rw[(sS hf ls.flatten).length_eq];exact⟨rfl,u ⟨bq,aj.d.2.trans a2⟩⟩)
 go_upto_region 3 with(go_at_call 86;refine gy.d.mono ?_;rintro e S ⟨rfl,go⟩);have cW:Hid (ey 87 #[.slice aC c6 bA] S fun e aA=>∃hl e2 iL,e=.returned (.slice hl e2 iL)/\Hid (aA.ownsRow w.heap.size 40 2 (.slice hl e2 iL) (hj ls).length ((hj ls).flatMap dX)/\eB w aA)):=u (by
  refine(ajj _ w.heap.size (kM hf ls.flatten) S go.d.1 (by rw[(sS hf ls.flatten).length_eq];exact hW.d)).mono ?_;rintro e aA ⟨cF,rfl,bq,a2⟩;obtain⟨hl,iL,rfl⟩:=cG bq;exact⟨hl,_,iL,rfl,u ⟨bq,go.d.2.trans a2⟩⟩)
 go_wp2_with (go_at_call 87;refine cW.d.mono ?_;rintro e aA ⟨hl,e2,iL,rfl,Vn⟩);go_ret;exact⟨_,rfl,Vn.d.1,Vn.d.2⟩
