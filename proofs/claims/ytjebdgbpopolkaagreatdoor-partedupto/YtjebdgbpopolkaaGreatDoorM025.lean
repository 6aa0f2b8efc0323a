import Derived.Test.YtjebdgbpopolkaaGreatDoorM022
import Derived.Laws.CopyOwn
set_option maxHeartbeats 0
set_option maxRecDepth 100000
set_option linter.all false
namespace Go.Proofs.YtjebdgbpopolkaaGreatDoor
open Tryz
open Go.RowKit
open bS
variable{ops:Array Oper}{o:Oper}{a:Act}{w w':World}{bV:Act->World->Prop}{Q:Exit->Act->World->Prop}{E:Prop}{v cF:Value}{F:Nat->Prop}{b g j n aW wb:Nat}{B:List bG}{O:Int}{ao:Bool}{st fZ st2:az}{c:je}{f:az->al×az}{aG:List (je)}{l vs:List al}{G:Option Nat}{ok:az->Prop}{xs:List Value}{rs:List (Nat×Value)}{cs:Array Value}
def aiI(w:World)(yt Ao ty elem:TypeId)(g o NH aiJ:Nat)(a:Addr)(NI aiK:Nat)(ay:Array Value)(t:TypeId)(cs:List Value)(hu:prog.underlying yt=some (.slice elem))(hs:(prog.info? elem).map (·.size)=some 2)(R:w.heap[g]?=some (.cells ay t (0,0)))(ar:cs.length=Nat.min NI NH*2)(BJ:∀j v,cs[j]?=some v->w.cell? (a.add j)=some v)(wS:o+cs.length<=ay.size)(h1:∀v∈cs,v.oneCell'=true):(Builtin.copy_ #[yt,Ao] ty #[.slice (some ⟨g,o,none⟩) NH aiJ,.slice (some a) NI aiK]).run prog w=.ok (goInt (Nat.min NI NH)) (w.setRow g (ay.toList.take o++cs++ay.toList.drop (o+cs.length)).toArray):=by
 have X:=run_loadCells_list (P:=prog) w a cs BJ;have c4:=run_storeCells_at prog g o t cs 0 ay w R (by simpa using wS) h1;cases ae:prog.info? elem with
 | none=>simp[ae] at hs
 | some i=>
  have hi:i.size=2:=by simpa [ae] using hs
  simp[Builtin.copy_,run_underlying hu,Builtin.lenOf,Builtin.firstCells,sizeOf,typeInfo,ae,hi,<-ar,X,c4]
def aiL(R:o.guard=none)(aq x:Operand)(yt Ao:TypeId)(NJ:o.op=Op.call {callee:=Callee.builtin Builtin.copy,args:=#[aq,x],argTypes:=#[yt,Ao]})(v bp:Value)(bb:a.eval aq=v)(aa:a.eval x=bp)(ag:(Builtin.copy_ #[yt,Ao] o.type #[v,bp]).run prog w=.ok cF w')(e1:bV (a.put o.dst cF) w'):if Region.wanted o (yielded ops a.tmps)=true then Oper.wp prog o a w bV Q else E:=by
 have hw:Region.wanted o (yielded ops a.tmps)=true:=by simp[Region.wanted,R]
 rw[if_pos hw];unfold Oper.wp;simp[execOp,NJ,resolve,invoke,builtin,bb,aa,ag,Result.andThen];exact e1
def dk.take{F:Nat->Prop}{w:World}:∀(k:Nat) {rs:List (Nat×Value)} {l:je},dk F w rs l->dk F w (rs.take k) (l.take k)
 | 0,_,_,_=>trivial
 | _+1,[],[],_=>trivial
 | k+1,_::_,_::_,h=>⟨h.1,dk.take k h.2⟩
 | _+1,[],_::_,h=>h.elim
 | _+1,_::_,[],h=>h.elim
def dk.app{F:Nat->Prop}{w:World}:∀{rs:List (Nat×Value)} {l:je} {U3:List (Nat×Value)} {lZ:je},dk F w rs l->dk F w U3 lZ->dk F w (rs++U3) (l++lZ)
 | [],[],_,_,_,h=>h
 | _::_,_::_,_,_,h,cC=>⟨h.1,dk.app h.2 cC⟩
 | [],_::_,_,_,h,_=>h.elim
 | _::_,[],_,_,h,_=>h.elim
def aM.splice(h:aM F w wb (some g) B O ao st){rc:List (Nat×Value)}(ai:dk F w rc c)(pN:c.length<=st.ad.length):∃ay af,w.heap[g]?=some (.cells ay 115 (0,0))/\dp w wb 2=some (.slice (some ⟨g,0,none⟩) st.ad.length af)/\st.ad.length<=af/\(st.ad.length-c.length)*2+(cQ rc).length<=ay.size/\aM F (w.setRow g (ay.toList.take ((st.ad.length-c.length)*2)++cQ rc++ay.toList.drop ((st.ad.length-c.length)*2+(cQ rc).length)).toArray) wb (some g) B O ao {st with ad:=st.ad.take (st.ad.length-c.length)++c}/\aR wb (some g) (some g) w (w.setRow g (ay.toList.take ((st.ad.length-c.length)*2)++cQ rc++ay.toList.drop ((st.ad.length-c.length)*2+(cQ rc).length)).toArray):=by
 have ef:=h.mZ g rfl;obtain⟨aE,b0,bf,cl,gc,rs,aI,aZ,a6,dt,e8,i8⟩:=h.at_;rcases a6.2 with⟨rfl,_⟩ | ⟨dM,af,ay,rfl,q1,bN,fR,iK,j4,km⟩
 ·simp[Value.ownBlock] at dt
 obtain rfl:dM=g:=by simpa [Value.ownBlock] using dt
 have NK:=e8.len;have E6:=ai.len;have Y:(cQ rc).length=c.length*2:=by rw[Hl,E6]
 have wS:(st.ad.length-c.length)*2+(cQ rc).length<=ay.size:=by rw[Y,j4];omega
 have vm:ay.toList.length=af*2:=by simpa using j4
 generalize cS:(ay.toList.take ((st.ad.length-c.length)*2)++cQ rc++ay.toList.drop ((st.ad.length-c.length)*2+(cQ rc).length))=Ci;have U4:aR wb (some dM) (some dM) w (w.setRow dM Ci.toArray):=⟨rfl,rfl,rfl,by simp[World.setRow],fun k hk ag=>setRow_other w dM k _ (fun e=>ag.2 (by rw[e])),.inl rfl,fun cs _ e=>⟨cs,(setRow_other w dM wb _ (fun e=>ef.2 e.symm)).trans e,rfl⟩⟩;have m:=U4.p4 h.own;have aiM:Ci.length=af*2:=by rw[<-cS,cu,cu,List.length_take,List.length_drop,vm,Y];omega
 have BH:Ci.take (st.ad.length*2)=cQ (rs.take (st.ad.length-c.length)++rc):=by
  have l1:(ay.toList.take ((st.ad.length-c.length)*2)).length=(st.ad.length-c.length)*2:=by rw[List.length_take,vm];omega
  rw[LG,<-D6,<-km,List.take_take,Nat.min_eq_left r,<-cS];exact List.take_left' (by rw[cu,l1,Y];omega)
 have b7:(st.ad.take (st.ad.length-c.length)++c).length=st.ad.length:=by rw[cu,List.length_take];omega
 refine⟨ay,af,bN,Z aI (i:=2) rfl,fR,wS,?_,by rw[cS];exact U4⟩;rw[cS];refine⟨fun k hk=>by simpa [World.setRow] using h.fH k hk,h.own,aE,.slice (some ⟨dM,0,none⟩) st.ad.length af,bf,cl,gc,rs.take (st.ad.length-c.length)++rc,(setRow_other w dM wb _ (fun e=>ef.2 e.symm)).trans aI,aZ.move m,?_,dt,((e8.take _).app ai).move m,fun e=>(i8 e).move m⟩;show(w.setRow dM Ci.toArray).ownsRow 0 115 2 (.slice (some ⟨dM,0,none⟩) st.ad.length af) (st.ad.take (st.ad.length-c.length)++c).length _;rw[b7];refine⟨?_,.inr ⟨dM,af,Ci.toArray,rfl,q1,setRow_heap w dM ay Ci.toArray _ _ bN,fR,iK,by simpa using aiM,by simpa using BH⟩⟩;rw[Hl,cu,List.length_take,NK,E6];omega
def yu(f:az->al×az)(aG:List (je))(fZ:az)(j:Nat)(vs:List al)(st:az):Prop:=(iw f aG fZ).1=vs++(iw f (aG.drop j) st).1/\(iw f aG fZ).2=(iw f (aG.drop j) st).2
def yu.step(h:yu f aG fZ j vs st)(aS:j<aG.length):yu f aG fZ (j+1) (vs++(if (f {st with ad:=st.ad.take (st.ad.length-aG[j].length)++aG[j]}).1.kind=0 then [] else [(f {st with ad:=st.ad.take (st.ad.length-aG[j].length)++aG[j]}).1])) (f {st with ad:=st.ad.take (st.ad.length-aG[j].length)++aG[j]}).2:=by obtain⟨h1,H⟩:=h;rw[List.drop_eq_getElem_cons aS,iw] at h1 H;exact⟨by rw[h1,List.append_assoc],H⟩
def yu.done(h:yu f aG fZ j vs st)(aS:aG.length<=j):iw f aG fZ=(vs,st):=by obtain⟨h1,H⟩:=h;rw[List.drop_of_length_le aS,iw] at h1 H;simp only[List.append_nil] at h1;exact Prod.ext h1 H
def aiN:(prog.info? 115).map (·.size)=some 2:=ax
def aiO{bI bh:World}{row:Option Nat}(aw:aM F w wb G B O ao fZ)(h:aM F bI wb G B O ao st)(hk:aR wb G G w bI)(R:bI.grownBy bh row)(ag:∀k,row=some k->w.heap.size<=k):aM F bh wb G B O ao st/\aR wb G G w bh:=by
 have hblk:∀k,k<bI.heap.size->row≠some k->bh.heap[k]?=bI.heap[k]?:=fun k bZ dR=>R.block k bZ (fun e=>dR e.symm);have hF:∀k,F k->row≠some k:=fun k av e=>by have:=ag k e;have:=aw.fH k av;omega
 obtain⟨aE,b0,bf,cl,gc,rs,aI,aZ,a6,dt,e8,i8⟩:=h.at_;have m:dj F F bI bh:=fun k bZ av=>⟨av,hblk k bZ (hF k av)⟩;have tj:row≠some wb:=fun e=>by have:=ag wb e;have:=aw.lt;omega
 refine⟨⟨fun k av=>e0 (h.fH k av) R.size,h.own,aE,b0,bf,cl,gc,rs,(hblk wb h.lt tj).trans aI,aZ.move m,?_,dt,e8.move m,fun e=>(i8 e).move m⟩,⟨R.os.trans hk.os,R.tape.trans hk.tape,R.output.trans hk.output,bX hk.size R.size,fun k bZ kc=>(hblk k (e0 bZ hk.size) (fun e=>by have:=ag k e;omega)).trans (hk.block k bZ kc),hk.next,fun cs t e=>by
   obtain⟨c1,Y,b3⟩:=hk.rT cs t e;exact⟨c1,(hblk wb (br Y).1 tj).trans Y,b3⟩⟩⟩
 refine⟨a6.1,?_⟩;rcases a6.2 with ar | ⟨g,af,ay,rfl,aY,en,rest⟩
 ·exact .inl ar
 ·have aiP:G=some g:=by rw[<-dt];rfl
  exact .inr ⟨g,af,ay,rfl,aY,(hblk g (br en).1 (fun e=>by have:=ag g e;have:=(aw.mZ g aiP).1;omega)).trans en,rest⟩
def aiQ(b:Nat)(co dN:Value)(cs:Array Value)(f:az->al×az)(w:World)(h:aM F w wb G B O true st)(gK:ok st)(A:w.heap[b]?=some (.cells cs 247 (0,0)))(cE:cs[6]?=some co)(an:eK w co [dN])(ef:st.bF.length<=20000)(Ap:∀hQ,ok hQ->∀c∈st.bF,ok {hQ with ad:=hQ.ad.take (hQ.ad.length-c.length)++c}/\c.length<=hQ.ad.length/\1<=c.length/\hQ.ad.length<=1000)(c4:st.bF≠[]->∀hQ,ok hQ->ok (f hQ).2)(kN:st.bF≠[]->p5 F wb G B O true ok w dN f):ey 249 #[M wb,M b] w fun e w'=>∃v,e=.returned v/\w'.ownsRow w.heap.size 112 3 v (iw f st.bF st).1.length (fc (iw f st.bF st).1)/\aM F w' wb G B O true (iw f st.bF st).2/\aR wb G G w w'/\ok (iw f st.bF st).2:=by
 have X:=h.lt;obtain⟨aE,b0,bf,cl,gc,rs,aI,aZ,a6,dt,e8,i8⟩:=h.at_;obtain⟨vs,lS,kk⟩:=i8 rfl;obtain⟨nB,cJ,e⟩:=lS.1;injection e with Y am bm;subst Y bm;have rI:cl=st.bF.length:=by rw[am,kk.len]
 have dZ:=Z aI (i:=3) rfl;have Hd:=u lS;have wT:=u kk;have cx:=u h;have dT:=u A;have e9:=u an;have aiR:=u Ap;have iz:=u c4;have bK:=u kN;have p6:=u cE;have U5:=u rI;have Is:Hid (vs.length=cl):=u am.symm;have bC:cl<=20000:=r;clear lS kk h A an Ap c4 kN cE ef aI aZ a6 dt e8 i8 rI am;go_enter func249,ntmps249;go_upto_region 3 with fail;go_loopg [5,14] (cl+1) (fun U bp i wr=>∃(j:Nat) (qP:List al) (c5:az),j<=cl/\i=q (j:Int)/\Hid (yu f st.bF st j qP c5)/\Hid (qP.length<=j)/\Hid (aM F wr wb G B O true c5)/\Hid (aR wb G G w wr)/\Hid (ok c5)/\Hid (wr.ownsRow w.heap.size 112 3 bp qP.length (fc qP))/\cl-j<U)
 case atStart=>exact⟨0,[],st,bu,rfl,u ⟨by simp,by simp⟩,u ap,cx,u (aR.refl _ _ _),u gK,u (World.ownsRow_nil _ _ _ _),r⟩
 case round=>
  obtain⟨j,qP,c5,aS,rfl,It,NL,dl,sU,Aq,jA,ae⟩:=hrel;by_cases aD:j<cl
  ·have cL:(j:Int)<(cl:Int):=r;have vn:j<st.bF.length:=by have:=U5.d;omega
   have U6:j<vs.length:=by have:=Is.d;omega
   obtain⟨vo,pN,dG,j0⟩:=aiR.d c5 Aq.d st.bF[j] (ec vn);have NM:dj F F w wr:=sU.d.p4 cx.d.own;obtain⟨rc,rW,Iu⟩:=(wT.d.move NM).get j U6 vn;obtain⟨pY,jw,uq,-,-,aiS⟩:=rW.Ho dG;obtain⟨dY,aiT,asq,Iv,-,y6,tO⟩:=(Hd.d.move NM).2 _ _ _ rfl r;have Nl:dp wr dY (aiT+j)=some (.slice (some ⟨pY,0,none⟩) st.bF[j].length jw):=by rw[<-uq];exact Z y6 (tO j U6)
   subst Iv;obtain⟨g,rfl⟩:∃g,G=some g:=by
    obtain⟨aE,b0,bf,cl,gc,rs,aI,aZ,a6,dt,e8,i8⟩:=dl.d.at_;rcases a6.2 with⟨_,aw⟩ | ⟨g,af,ay,e,_⟩
    ·omega
    ·exact⟨g,by rw[<-dt,e];rfl⟩
   obtain⟨ay,fm,s1,s2,dd,qQ,k3,vp⟩:=dl.d.splice Iu pN;have U7:∀(k:Nat) (v:Value),(cQ rc)[k]?=some v->wr.drew.cell? ((⟨pY,0,none⟩:Addr).add k)=some v:=fun k v hv=>by rw[uq] at rW;exact rW.1.cells rfl k v hv
   have U8:(cQ rc).length=st.bF[j].length*2:=by rw[Hl,Iu.len]
   have NN:Nat.min st.bF[j].length st.bF[j].length=st.bF[j].length:=Nat.min_self _;have NO:=fun ty=>aiI wr.drew 92 92 ty 115 g ((c5.ad.length-st.bF[j].length)*2) st.bF[j].length (fm-(c5.ad.length-st.bF[j].length)) ⟨pY,0,none⟩ st.bF[j].length jw ay 115 (cQ rc) underlying92 aiN s1 (by rw[U8,NN]) U7 qQ Iu.one;simp only[NN] at NO;clear NN;have Kb:IntKind.i64.wrap ((c5.ad.length:Int)-(st.bF[j].length:Int))=((c5.ad.length-st.bF[j].length:Nat):Int):=by rw[IntKind.wrap_i64];omega
   have ou:(c5.ad.length-st.bF[j].length:Nat)+st.bF[j].length=c5.ad.length:=r;have fr:IntKind.i64.wrap ((j:Int)+1)=(j:Int)+1:=mC;have qn:((c5.ad.length-st.bF[j].length:Nat):Int)<=(c5.ad.length:Int):=r;have aiU:((c5.ad.length-st.bF[j].length:Nat):Int)<=(fm:Int):=r;have DW:Hid (∀ty,(Builtin.copy_ #[92,92] ty #[.slice (some ⟨g,(c5.ad.length-st.bF[j].length)*2,none⟩) st.bF[j].length (fm-(c5.ad.length-st.bF[j].length)),.slice (some ⟨pY,0,none⟩) st.bF[j].length jw]).run prog wr.drew=.ok (goInt st.bF[j].length) (wr.setRow g (List.take ((c5.ad.length-st.bF[j].length)*2) ay.toList++cQ rc++List.drop ((c5.ad.length-st.bF[j].length)*2+(cQ rc).length) ay.toList).toArray).drew):=u NO;have E7:=u ((sU.d.trans X vp).drew)
   have NP:=u k3.drew;have aiV:=u (vp.drew.l3 dl.d K K jA.d);have wU:st.bF≠[]:=fun e=>by rw[e] at vn;exact absurd vn (fp _)
   have Iw:=u (bK.d wU _ _ E7.d NP.d vo);have NQ:=u (iz.d wU _ vo);clear wU;have NR:=u (It.d.step vn);have ch:=u ae;have E8:=E7.d.l3 cx.d K K e9.d;have ly:=E7.d.gg cx.d K K dT.d;have km:=Z ly p6.d;have Ix:=u E7.d.size;clear NO k3 vp vo It U7 Iu rW y6 tO uq U8 s1 qQ ae NM ly jA;generalize (wr.setRow g (List.take ((c5.ad.length-st.bF[j].length)*2) ay.toList++cQ rc++List.drop ((c5.ad.length-st.bF[j].length)*2+(cQ rc).length) ay.toList).toArray).drew=ih at *;obtain⟨NS,U9,rfl,SI⟩:∃NS U9,co=.slice (some ⟨NS,0,none⟩) 1 U9/\dp ih NS 0=some dN:=by obtain⟨g9,Np,kX,nw⟩:=(show eK ih co [dN] from E8).cell 0 (by simp);exact⟨g9,Np,kX,nw⟩
   clear E8;go_upto_region 5 with fail;go_region_law (refine aiL rfl (.tmp 30) (.tmp 31) 92 92 rfl (.slice (some ⟨g,(c5.ad.length-st.bF[j].length)*2,none⟩) st.bF[j].length (fm-(c5.ad.length-st.bF[j].length))) (.slice (some ⟨pY,0,none⟩) st.bF[j].length jw) (by simp[Act.eval,Act.put];omega) (by simp[Act.eval,Act.put]) (DW.d _) ?_);all_goals
    generalize ({c5 with ad:=c5.ad.take (c5.ad.length-st.bF[j].length)++st.bF[j]}:az)=aiW at *;have aiX:=NP;clear DW NP s2 dd Kb ou qn aiU Nl pN dG j0 aiS;generalize aiY:f aiW=cm at *;obtain⟨⟨a6,dm,dd⟩,wR⟩:=cm;clear aiY;unfold cb at Iw;simp only[] at Iw NR NQ;have Va:Hid (∀S,aM F S wb (some g) B O true wR->aR wb (some g) (some g) ih S->S.ownsRow w.heap.size 112 3 u5 qP.length (fc qP)/\aR wb (some g) (some g) w S):=u (fun S _ hk=>⟨hk.l3 aiX.d K K aiV.d,E7.d.trans X hk⟩);have aiZ:Hid (fc (qP++[⟨a6,dm,dd⟩])=fc qP++[q (a6:Int),q dm,.string (a7 dd)]):=u (Ly _ _);by_cases z0:a6=0
    ·subst z0;have pk:Hid (yu f st.bF st (j+1) qP wR):=u (by have:=NR.d;simpa using this);generalize a7 dd=e3 at *;go_wp2_with (go_at_call 116;refine Iw.d.mono ?_;rintro e S ⟨rfl,lB,dR⟩);all_goals
      obtain⟨h0,gR⟩:=Va.d S lB dR;have ae:=ch.d;go_roundg (cl-j);case measure=>omega
      case rel=>exact⟨j+1,qP,wR,r,by go_num,pk,u (by have:=NL.d;omega),u (lB.alloc _),u (gR.alloc _),NQ,u (h0.alloc _),r⟩
    ·have c7:¬((a6:Int)=0):=r;have asr:((a6:Int)==0)=false:=by rw[cV];exact c7
     have pk:Hid (yu f st.bF st (j+1) (qP++[⟨a6,dm,dd⟩]) wR):=u (by have:=NR.d;rw[if_neg z0] at this;exact this);generalize a7 dd=e3 at *;go_upto_region 8 with(go_at_call 116;refine Iw.d.mono ?_;rintro e S ⟨rfl,lB,dR⟩);all_goals
      obtain⟨h0,gR⟩:=Va.d S lB dR;obtain⟨v5,bh,qA,jI,fh,Cj⟩:=ug underlying104 Lz rfl K K (h0.alloc (.cells #[q (a6:Int),q dm,.string e3] 112)) #[q (a6:Int),q dm,.string e3] rfl (by simp[Value.oneCell']) (by have:=NL.d;omega) (by rw[cc];have:=gR.size;omega);have Dh:Hid (aM F bh wb (some g) B O true wR/\aR wb (some g) (some g) w bh):=u (by
       have h1:=(lB.alloc (.cells #[q (a6:Int),q dm,.string e3] 112)).alloc (.cells #[q (a6:Int),q dm,.string e3] 112);have H:=(gR.alloc (.cells #[q (a6:Int),q dm,.string e3] 112)).alloc (.cells #[q (a6:Int),q dm,.string e3] 112);exact aiO cx.d h1 H fh (fun k e=>(h0.lt k e).1))
      have No:=u jI;rw[cc] at qA;clear jI fh Cj h0 gR;go_wp2_with (at_builtin;refine Lib.wpList_append_run _ rfl _ _ _ _ rfl _ _ rfl rfl _ _ (qA _) ?_);all_goals
       have ae:=ch.d;go_roundg (cl-j);case measure=>omega
       case rel=>exact⟨j+1,qP++[⟨a6,dm,dd⟩],wR,r,by go_num,pk,u (by have:=NL.d;simp;omega),u Dh.d.1,u Dh.d.2,NQ,u (by rw[aiZ.d,cu];exact No.d),r⟩
  ·have qn:st.bF.length<=j:=by have:=U5.d;omega
   have Vb:=It.d.done qn;have cL:(cl:Int)<=(j:Int):=r;obtain⟨aC,bA,rfl⟩:∃aC bA,u5=.slice aC qP.length bA:=by
    rcases jA.d.2 with⟨rfl,aw⟩ | ⟨x,af,ay,rfl,_⟩
    ·exact⟨_,_,by rw[aw]⟩
    ·exact⟨_,_,rfl⟩
   have NT:=u Vb;clear It ae Vb;go_wp2_with fail;go_ret;rw[NT.d];exact⟨_,rfl,jA.d,dl.d,sU.d,Aq.d⟩
def NU:∀(a b:List UInt8),Lib.compareBytes a b=tW a b
 | [],[]=>rfl
 | [],_::_=>rfl
 | _::_,[]=>rfl
 | a::C,b::s=>by rw[Lib.compareBytes,tW,NU C s]
def E9(x y:al):nX x y=jo x y:=by
 unfold nX jo j5 j5 j5 j5;rw[NU];have e:∀a b:Int,Lib.compareInt a b=pO a b:=fun a b=>rfl;rw[e,e];split
 ·split
  ·split<;>simp_all
  ·rfl
 ·rfl
def NV:∀args w,(callFunc 79 args).run prog w=.ok (.enter 79 args) w:=enters_of func79 ax rfl
def Vc(x y:al)(w:World):ey 79 #[cb x,cb y] w (gU w (q (jo x y))):=(Me x y w).mono fun e w' aj=>by obtain⟨h1,os,rfl⟩:=aj;refine⟨by rw[h1,E9],rfl,rfl,rfl,by rw[Sort.size_grow];exact Nat.le_add_right _ _,fun k hk=>Array.getElem?_append_left hk⟩
def aqw(fn:FuncId)(F:al->List al->al)(p:Int->Bool)(aqY:∀m,F m []=m)(aq1:∀m v C,F m (v::C)=F (if p (jo v m) then v else m) C)(JD:(fn=250/\p=fun c=>decide (c<0))\/(fn=251/\p=fun c=>decide (0<c)))(g af lo:Nat)(l:List al)(w:World)(aw:0<l.length)(b7:l.length<=100000)(an:w.ownsRow lo 112 3 (.slice (some ⟨g,0,none⟩) l.length af) l.length (fc l)):ey fn #[.slice (some ⟨g,0,none⟩) l.length af,.func (.func 79) #[] #[]] w (gU w (cb (F l[0] (l.drop 1)))):=by
 have eX:=NV;have ef:g<w.heap.size:=by
  rcases an.2 with⟨e,_⟩ | ⟨dM,e7,ay,e,_,h,_⟩
  ·cases e
  ·injection e with e;injection e with e;injection e with e;subst e;exact(br h).1
 have wV:Hid (∀(w':World) (j:Nat) (aS:j<l.length),eB w w'->dp w' g (j*3)=some (q (l[j].kind:Int))/\dp w' g (j*3+1)=some (q l[j].num)/\dp w' g (j*3+2)=some (.string (a7 l[j].du))):=u (fun w' j aS A=>by
  obtain⟨h1,H,ab⟩:=wu l j aS;have dz:∀i x,(fc l)[i]?=some x->dp w' g i=some x:=fun i x aa=>by have:=an.cells rfl i x aa;rw[Addr.add_lit,ax1] at this;exact dr A this ef
  exact⟨dz _ _ h1,dz _ _ H,dz _ _ ab⟩)
 obtain⟨i0,cn,i2⟩:=wV.d w 0 aw (Below.refl _ _);simp only[Nat.zero_mul,ax1] at i0 cn i2;have dA:(1:Int)<=(l.length:Int):=r;have zJ:(0:Int)<(l.length:Int):=r;have cy:¬g=w.heap.size:=r;have pm:¬g=w.heap.size+1:=r;have SJ:=u aqY;have x9:=u aq1;have gS:Hid (∀a b c:Value,eB w ((w.alloc (.cells #[q 0,q 0,.string ⟨#[]⟩] 112)).alloc (.cells #[a,b,c] 112))):=u (fun a b c=>cT.alloc (by rw[cc];omega) _);have NW:Hid (∀a b c:Value,((w.alloc (.cells #[q 0,q 0,.string ⟨#[]⟩] 112)).alloc (.cells #[a,b,c] 112)).heap[w.heap.size]?=some (.cells #[q 0,q 0,.string ⟨#[]⟩] 112 (0,0))):=u (fun a b c=>(Below.heap_alloc _ _ w.heap.size (by rw[cc];omega)).trans (bH w _))
 have NX:Hid (∀a b c:Value,((w.alloc (.cells #[q 0,q 0,.string ⟨#[]⟩] 112)).alloc (.cells #[a,b,c] 112)).heap[w.heap.size+1]?=some (.cells #[a,b,c] 112 (0,0))):=u (fun a b c=>by
  have U:=bH (w.alloc (.cells #[q 0,q 0,.string ⟨#[]⟩] 112)) (.cells #[a,b,c] 112);rwa [cc] at U)
 generalize oF:F l[0] (l.drop 1)=gh at *;have ur:Hid (F l[0] (l.drop 1)=gh):=u oF;clear oF an aqY aq1;rcases JD with⟨rfl,aj⟩ | ⟨rfl,aj⟩
 all_goals
  have lm:=u aj;clear aj;first
   | go_enter func250,ntmps250
   | go_enter func251,ntmps251
  go_upto_region 5 with fail;have ST:Hid (∃m:al,F m (l.drop 1)=gh/\m=l[0]):=u ⟨l[0],ur.d,rfl⟩;obtain⟨m0,Gt,np⟩:=ST.d;go_loopg [6] (l.length+1) (fun U i wr=>∃(j:Nat) (m:al),1<=j/\j<=l.length/\i=q (j:Int)/\Hid (F m (l.drop j)=gh)/\Hid (eB w wr)/\Hid (wr.heap[w.heap.size]?=some (.cells #[q 0,q 0,.string ⟨#[]⟩] 112 (0,0)))/\Hid (wr.heap[w.heap.size+1]?=some (.cells #[q (m.kind:Int),q m.num,.string (a7 m.du)] 112 (0,0)))/\l.length-j<U);case atStart=>exact⟨1,l[0],ap,r,rfl,ur,u (gS.d _ _ _),u (NW.d _ _ _),u (NX.d _ _ _),r⟩
  case round=>
   obtain⟨j,m,oE,aS,rfl,hinv,jQ,jB,hh,ae⟩:=hrel;have d0:=Z hh.d (i:=0) rfl;have d1:=Z hh.d (i:=1) rfl;have d2:=Z hh.d (i:=2) rfl;have f0:=aQ (i:=0) hh.d;have f1:=aQ (i:=1) hh.d;have f2:=aQ (i:=2) hh.d;have bk:=Z jB.d (i:=0) rfl;have c1:=Z jB.d (i:=1) rfl;have c2:=Z jB.d (i:=2) rfl;have g0:=aQ (i:=0) jB.d;have g1:=aQ (i:=1) jB.d;have g2:=aQ (i:=2) jB.d;by_cases aD:j<l.length
   ·have cL:(j:Int)<(l.length:Int):=r;have fr:IntKind.i64.wrap ((j:Int)+1)=(j:Int)+1:=mC;obtain⟨a0,bq,a2⟩:=wV.d wr j aD jQ.d;have sV:Hid (ey 79 #[.agg #[q (l[j].kind:Int),q l[j].num,.string (a7 l[j].du)],.agg #[q (m.kind:Int),q m.num,.string (a7 m.du)]] wr.drew fun e w'=>e=.returned (q (jo l[j] m))/\eB w w'/\w'.heap[w.heap.size]?=some (.cells #[q 0,q 0,.string ⟨#[]⟩] 112 (0,0))/\w'.heap[w.heap.size+1]?=some (.cells #[q (m.kind:Int),q m.num,.string (a7 m.du)] 112 (0,0))/\(dp w' g (j*3)=some (q (l[j].kind:Int))/\dp w' g (j*3+1)=some (q l[j].num)/\dp w' g (j*3+2)=some (.string (a7 l[j].du)))):=u ((Vc l[j] m wr.drew).mono fun e w' aj=>by
     have A:eB w w':=jQ.d.trans (Below.trans (⟨rfl,rfl,rfl,ap,fun _ _=>rfl⟩:Below w.heap.size wr wr.drew) (aj.2.mono jQ.d.size));exact⟨aj.1,A,(aj.2.block _ (br jB.d).1).trans jB.d,(aj.2.block _ (br hh.d).1).trans hh.d,wV.d w' j aD A⟩)
    have Fb:Hid (F (if p (jo l[j] m) then l[j] else m) (l.drop (j+1))=gh):=u (by
     have:=hinv.d;rw[List.drop_eq_getElem_cons aD,x9.d] at this;exact this)
    have ch:=u ae;clear hinv ae jB hh jQ bk c1 c2 g0 g1 g2 f0 f1 f2;generalize mK:jo l[j] m=eF at *;clear mK;generalize l[j]=x at *;obtain⟨mS,e2,nA⟩:=x;obtain⟨mk,Ar,wm⟩:=m;simp only[] at *;have NY:Hid (a7 nA=a7 nA):=u rfl;generalize yv:a7 nA=Ck at *;generalize Fc:a7 wm=wW at *;have NZ:=u yv;have N0:=u Fc;clear yv Fc NY;go_upto_region 7 with fail
    go_region_held3 (fun w'=>w'.cell? ⟨g,j*3,none⟩=some (q (mS:Int))/\w'.cell? ⟨g,j*3+1,none⟩=some (q e2)/\w'.cell? ⟨g,j*3+2,none⟩=some (.string Ck)/\w'.cell? ⟨w.heap.size+1,0,none⟩=some (q (mk:Int))/\w'.cell? ⟨w.heap.size+1,1,none⟩=some (q Ar)/\w'.cell? ⟨w.heap.size+1,2,none⟩=some (.string wW)) (go_keep) (first | (go_at_fn 79;refine sV.d.mono ?_;rintro e S ⟨rfl,ah,jB,hh,hr,cN,bL⟩;have d0:=Z hh (i:=0) rfl;have d1:=Z hh (i:=1) rfl;have d2:=Z hh (i:=2) rfl;have f0:=aQ (i:=0) hh;have f1:=aQ (i:=1) hh;have f2:=aQ (i:=2) hh;have gS:=u ah;have wX:=u jB;have Fe:=u hh;clear ah jB hh));all_goals
     have ae:=ch.d;by_cases mK:p eF=true
     ·have ai2:=mK;first
       | replace ai2:eF<0:=by rw[lm.d] at ai2;simpa using ai2
       | replace ai2:0<eF:=by rw[lm.d] at ai2;simpa using ai2
      have mT:Hid (F ⟨mS,e2,nA⟩ (l.drop (j+1))=gh):=u (by have:=Fb.d;rw[if_pos mK] at this;exact this);have kO:Hid (a7 nA=Ck):=NZ;go_wp2_with fail;go_roundg (l.length-j);case measure=>omega
      case rel=>
       have bM:w.heap.size≠w.heap.size+1:=r;refine⟨j+1,⟨mS,e2,nA⟩,r,r,by go_num,mT,u ?_,u ?_,u ?_,r⟩
       ·exact((gS.d.setCell (by exact Nat.le_succ _) _).setCell (by exact Nat.le_succ _) _).setCell (by exact Nat.le_succ _) _
       ·exact(Below.heap_setCell _ _ _ _ (by exact bM)).trans ((Below.heap_setCell _ _ _ _ (by exact bM)).trans ((Below.heap_setCell _ _ _ _ (by exact bM)).trans wX.d))
       ·rw[kO.d];exact io Fe.d
     ·have mT:Hid (F ⟨mk,Ar,wm⟩ (l.drop (j+1))=gh):=u (by have:=Fb.d;rw[if_neg mK] at this;exact this);have ai1:=mK;first
       | replace ai1:0<=eF:=by rw[lm.d] at ai1;simpa using ai1
       | replace ai1:eF<=0:=by rw[lm.d] at ai1;simpa using ai1
      clear mK;go_wp2_with fail;go_roundg (l.length-j);case measure=>omega
      case rel=>exact⟨j+1,⟨mk,Ar,wm⟩,r,r,by go_num,mT,gS,wX,u (by rw[N0.d];exact Fe.d),r⟩
   ·have eZ:l.drop j=[]:=List.drop_of_length_le r;have hm:m=gh:=by have:=hinv.d;rw[eZ,SJ.d] at this;exact this
    have cL:(l.length:Int)<=(j:Int):=r;have dT:=jQ;have wX:=jB;clear hinv jQ ae eZ hh jB;subst hm;generalize Ff:a7 m.du=wW at *;have N1:=u Ff;clear Ff;go_wp2_with fail;have aY:=io (x:=q (m.kind:Int)) (y:=q m.num) (z:=.string wW) wX.d;have z0:=Z aY (i:=0) rfl;have b3:=Z aY (i:=1) rfl;have z2:=Z aY (i:=2) rfl;refine bodyPost_ret (v:=.agg #[q (m.kind:Int),q m.num,.string wW]) (by simp[results,results250,results251,go_sem,z0,b3,z2]) rfl ⟨by rw[cb,N1.d],((dT.d.setCell (by exact ap) _).setCell (by exact ap) _).setCell (by exact ap) _⟩
def N4{lo size k af:Nat}{e:TypeId}(h:w.ownsRow lo e size (.slice (some ⟨g,0,none⟩) n af) n xs)(hk:k<=n):w.ownsRow lo e size (.slice (some ⟨g,0,none⟩) k af) k (xs.take (k*size)):=by
 obtain⟨aw,h1⟩:=h;rcases h1 with⟨Y,_⟩ | ⟨dM,cJ,ay,Y,q1,bN,fR,iK,j4,km⟩
 ·cases Y
 ·injection Y with Y am bm;injection Y with Y;injection Y with Y;subst Y bm;have hle:k*size<=n*size:=Nat.mul_le_mul_right _ hk;refine⟨by rw[List.length_take,aw,Nat.min_eq_left hle],.inr ⟨g,af,ay,rfl,q1,bN,bX hk fR,iK,j4,?_⟩⟩;rw[<-km,List.take_take,Nat.min_eq_left hle]
def aM.Aw{J:World}(h:aM F w wb G B O ao st){rows':je}(R:w.grownBy J G)(fs:J.ownsRow 0 115 2 v rows'.length (cQ rs))(fq:v.ownBlock=G\/∀g,v.ownBlock=some g->w.heap.size<=g)(b1:dk F w rs rows'):aM F (J.setCell ⟨wb,2,none⟩ v) wb v.ownBlock B O ao {st with ad:=rows'}/\aR wb G v.ownBlock w (J.setCell ⟨wb,2,none⟩ v):=by
 have ef:=h.mZ;have X:=h.lt;obtain⟨aE,b0,bf,cl,gc,iM,aI,aZ,a6,dt,e8,i8⟩:=h.at_;have hblk:∀k,k<w.heap.size->G≠some k->J.heap[k]?=w.heap[k]?:=fun k bZ dR=>R.block k bZ (fun e=>dR e.symm);have N5:G≠some wb:=fun e=>(ef wb e).2 rfl;have Vo:v.ownBlock≠some wb:=fun e=>by
  rcases fq with Y | Y
  ·exact N5 (Y▸e)
  ·have:=Y wb e;omega
 have kw:=(hblk wb X N5).trans aI;have m:dj F F w (J.setCell ⟨wb,2,none⟩ v):=fun k hk av=>⟨av,(Below.heap_setCell _ _ _ k (by exact(h.own k av).1)).trans (hblk k hk (h.own k av).2)⟩;refine⟨⟨fun k av=>by rw[size_set];exact e0 (h.fH k av) R.size,fun k av=>⟨(h.own k av).1,fun e=>?_⟩,aE,v,bf,cl,gc,rs,hc kw _,aZ.move m,E0 fs Vo _ _,rfl,b1.move m,fun e=>(i8 e).move m⟩,⟨R.os,R.tape,R.output,by rw[size_set];exact R.size,fun k hk ag=>(Below.heap_setCell _ _ _ k (by exact ag.1)).trans (hblk k hk ag.2),fq,fun cs t e=>⟨cs.setIfInBounds 2 v,hc ((hblk wb X N5).trans e) v,by rw[Array.getElem?_setIfInBounds_ne K]⟩⟩⟩;rcases fq with Y | Y
 ·exact(h.own k av).2 (Y▸e)
 ·have:=Y k e;have:=h.fH k av;omega
def N6(F:Nat->Prop)(wb:Nat)(G:Option Nat)(B:List bG)(O:Int)(ao:Bool)(st:az)(w:World)(e:Ending)(w':World):Prop:=e=.returned (.tuple #[])/\∃aF,aM F w' wb aF B O ao st/\aR wb G aF w w'
def N7(F:Nat->Prop)(w:World)(v:Value)(c:je):Prop:=∃rs,w.ownsRow 0 115 2 v c.length (cQ rs)/\dk F w rs c
def ajm{base:Nat}{bp:Value}{m:Nat}(hv:w.ownsRow base 115 2 v n xs)(hu:w.ownsRow 0 115 2 bp m (cQ rs))(ag:dk F w rs c)(ou:n+m<=100000)(A:base<=w.heap.size):∃cF w',(∀ty,(Builtin.append_ #[92,92] ty #[v,bp]).run prog w=.ok cF w')/\w'.ownsRow base 115 2 cF (n+m) (xs++cQ rs)/\w.grownBy w' v.ownBlock/\(cF.ownBlock=v.ownBlock\/cF.ownBlock=some w.heap.size):=by
 obtain⟨i0,hi,gj,gx,cd⟩:=info_parts D7;rcases hu.2 with⟨rfl,rfl⟩ | ⟨g,af,ay,rfl,_⟩
 ·have hy:cQ rs=[]:=ma (by rw[hu.1]);rw[hy];exact⟨v,w,fun ty=>run_append_owned_none w base _ ty _ i0 2 underlying92 hi v n xs hv,by simpa using hv,uQ _ _,.inl rfl⟩
 ·exact MR underlying92 D7 rfl K K hv hu.1 (hu.cells rfl) ag.one r A
def Vp(fl:Value)(c:je)(w:World)(h:aM F w wb G B O ao st)(ai:N7 F w fl c)(ar:st.ad.length+c.length<=10000):ey 71 #[M wb,fl] w (N6 F wb G B O ao {st with ad:=st.ad++c} w):=by
 have ef:=h.mZ;have X:=h.lt;obtain⟨aE,b0,bf,cl,gc,iM,aI,aZ,a6,dt,e8,i8⟩:=h.at_;obtain⟨rc,hu,rW⟩:=ai;obtain⟨v1,J,j0,iF,dv,N8⟩:=ajm a6 hu rW r bu;obtain⟨bq,wZ,rfl⟩:=cG iF;rw[dt] at dv N8;have hH:=h.Aw (v:=.slice bq (st.ad.length+c.length) wZ) (rs:=iM++rc) (rows':=st.ad++c) dv (by rw[cu,LG];exact iF) (by
  rcases N8 with e | e
  ·exact .inl e
  ·exact .inr fun g R=>by rw[e] at R;injection R with R;omega) (e8.app rW)
 have hblk:J.heap[wb]?=_:=(dv.block wb X (fun e=>(ef wb e.symm).2 rfl)).trans aI;have c2:=Z aI (i:=2) rfl;have d2:=Z hblk (i:=2) rfl;have f2:=aQ (i:=2) hblk;have cx:=u hH;have cK:=u j0;clear hH j0 iF dv N8 hblk aI aZ a6 dt e8 i8 hu rW ef X h ar;go_enter func71,ntmps71;go_wp2_with (at_builtin;refine Lib.wpList_append_run _ rfl _ _ _ _ rfl _ _ rfl rfl _ _ (cK.d _) ?_);go_end0;exact⟨rfl,_,cx.d⟩
def ajn(gB:Option Addr)(cH dz:Nat)(w:World)(h:aM F w wb G B O ao st)(ai:cH<=st.ad.length)(ar:st.ad.length<=10000):ey 74 #[M wb,.slice gB cH dz] w (N6 F wb G B O ao {st with ad:=st.ad.take (st.ad.length-cH)} w):=by
 have ef:=h.mZ;have X:=h.lt;obtain⟨aE,b0,bf,cl,gc,iM,aI,aZ,a6,dt,e8,i8⟩:=h.at_;rcases a6.2 with⟨rfl,aY⟩ | ⟨g,af,ay,rfl,q1,bN,fR,iK,j4,km⟩
 ·have hH:=h.Aw (v:=.slice none 0 0) (rs:=iM.take (st.ad.length-cH)) (rows':=st.ad.take (st.ad.length-cH)) (uQ _ _) (by
   have c7:st.ad=[]:=ma aY;have Y:iM=[]:=ma (by rw[e8.len,aY]);rw[c7,Y,List.take_nil,List.take_nil];exact⟨rfl,.inl ⟨rfl,rfl⟩⟩) (.inl dt) (e8.take _)
  have c2:=Z aI (i:=2) rfl;have f2:=aQ (i:=2) aI;have cx:=u hH;obtain rfl:cH=0:=r;clear hH aI aZ a6 dt e8 i8 ef X h ar ai;go_enter func74,ntmps74;go_region_with fail;all_goals
   go_end0;exact⟨rfl,_,cx.d.1.drew,cx.d.2.drew⟩
 ·have hH:=h.Aw (v:=.slice (some ⟨g,0,none⟩) (st.ad.length-cH) af) (rs:=iM.take (st.ad.length-cH)) (rows':=st.ad.take (st.ad.length-cH)) (uQ _ _) (by
   rw[List.length_take,Nat.min_eq_left r,<-D6];exact N4 a6 r) (.inl dt) (e8.take _)
  have c2:=Z aI (i:=2) rfl;have f2:=aQ (i:=2) aI;have cx:=u hH;have hw:IntKind.i64.wrap ((st.ad.length:Int)-(cH:Int))=((st.ad.length-cH:Nat):Int):=by rw[IntKind.wrap_i64];omega
  have h1:((st.ad.length-cH:Nat):Int)<=(af:Int):=r;clear hH aI aZ a6 dt e8 i8 ef X h;go_enter func74,ntmps74;go_region_with fail;all_goals
   go_end0;exact⟨rfl,_,cx.d.1.drew,cx.d.2.drew⟩
def IG(R:o.guard=none)(aq x:Operand)(yt Ao:TypeId)(NJ:o.op=Op.call {callee:=Callee.builtin Builtin.append,args:=#[aq,x],argTypes:=#[yt,Ao]})(v bp:Value)(bb:a.eval aq=v)(aa:a.eval x=bp)(ag:(Builtin.append_ #[yt,Ao] o.type #[v,bp]).run prog w=.ok cF w')(e1:bV (a.put o.dst cF) w'):if Region.wanted o (yielded ops a.tmps)=true then Oper.wp prog o a w bV Q else E:=by
 have hw:Region.wanted o (yielded ops a.tmps)=true:=by simp[Region.wanted,R]
 rw[if_pos hw];unfold Oper.wp;simp[execOp,NJ,resolve,invoke,builtin,bb,aa,ag,Result.andThen];exact e1
def aM.push(h:aM F w wb G B O ao st){row:Nat×List al}{aC:Option Addr}{fj:Nat}(ag:eg F w 112 3 (.slice aC row.2.length fj) row.2.length (fc row.2))(ar:st.ad.length<=10000):∃eL fm bq wZ bh,dp w wb 2=some (.slice eL st.ad.length fm)/\(∀ty,(Builtin.append_ #[92,92] ty #[.slice eL st.ad.length fm,.slice (some ⟨w.heap.size,0,none⟩) 1 1]).run prog (w.alloc (.cells #[q (row.1:Int),.slice aC row.2.length fj] 115))=.ok (.slice bq (st.ad.length+1) wZ) bh)/\(∃x,dp bh wb 2=some x)/\bh.frozen? ⟨wb,2,none⟩=false/\∃aF,aM F (bh.setCell ⟨wb,2,none⟩ (.slice bq (st.ad.length+1) wZ)) wb aF B O ao {st with ad:=st.ad++[row]}/\aR wb G aF w (bh.setCell ⟨wb,2,none⟩ (.slice bq (st.ad.length+1) wZ)):=by
 have ef:=h.mZ;have X:=h.lt;obtain⟨aE,b0,bf,cl,gc,iM,aI,aZ,a6,dt,e8,i8⟩:=h.at_;obtain⟨v5,bh,qA,jI,fh,Cj⟩:=ug underlying92 D7 rfl K K a6 #[q (row.1:Int),.slice aC row.2.length fj] rfl (by simp[Value.oneCell']) r bu;obtain⟨eL,fm,rfl⟩:=cG a6;obtain⟨bq,wZ,rfl⟩:=cG jI;rw[dt] at fh Cj;have dI:=(Below.refl w.heap.size w).alloc ap (.cells #[q (row.1:Int),.slice aC row.2.length fj] 115);have ajr:=h.below dI;have m:dj F F w (w.alloc (.cells #[q (row.1:Int),.slice aC row.2.length fj] 115)):=fun k hk av=>⟨av,dI.block k hk⟩;have ff:=cc w (.cells #[q (row.1:Int),.slice aC row.2.length fj] 115);have hH:=ajr.Aw (rs:=iM++[(row.1,.slice aC row.2.length fj)]) (rows':=st.ad++[row]) fh (by rw[cu,LF];exact jI) (by
  rcases Cj with e | e
  ·exact .inl e
  ·exact .inr fun g R=>by rw[e] at R;injection R with R;omega) ((e8.snoc (a:=(row.1,.slice aC row.2.length fj)) (b:=row) rfl ag).move m)
 have tj:bh.heap[wb]?=_:=(fh.block wb r (fun e=>(ef wb e.symm).2 rfl)).trans ((dI.block wb X).trans aI);exact⟨eL,fm,bq,wZ,bh,Z aI (i:=2) rfl,qA,⟨_,Z tj (i:=2) rfl⟩,aQ tj,_,hH.1,(aR.of dI).trans X hH.2⟩
def aM.pop(h:aM F w wb G B O ao st)(ar:1<=st.ad.length):∃g af,dp w wb 2=some (.slice (some ⟨g,0,none⟩) st.ad.length af)/\w.frozen? ⟨wb,2,none⟩=false/\st.ad.length<=af/\∃aF,aM F (w.setCell ⟨wb,2,none⟩ (.slice (some ⟨g,0,none⟩) (st.ad.length-1) af)) wb aF B O ao {st with ad:=st.ad.take (st.ad.length-1)}/\aR wb G aF w (w.setCell ⟨wb,2,none⟩ (.slice (some ⟨g,0,none⟩) (st.ad.length-1) af)):=by
 obtain⟨aE,b0,bf,cl,gc,iM,aI,aZ,a6,dt,e8,i8⟩:=h.at_;rcases a6.2 with⟨rfl,aY⟩ | ⟨g,af,ay,rfl,q1,bN,fR,iK,j4,km⟩
 ·omega
 ·have hH:=h.Aw (v:=.slice (some ⟨g,0,none⟩) (st.ad.length-1) af) (rs:=iM.take (st.ad.length-1)) (rows':=st.ad.take (st.ad.length-1)) (uQ _ _) (by
   rw[List.length_take,Nat.min_eq_left r,<-D6];exact N4 a6 r) (.inl dt) (e8.take _)
  exact⟨g,af,Z aI (i:=2) rfl,aQ aI,fR,_,hH⟩
abbrev ez:=List (je)
def IH(cs:Array Value)(off:Nat)(V:lh):Prop:=∀i (h:i<V.length),cs[off+i*2]?=some (.string V[i].1)/\cs[off+i*2+1]?=some (.string V[i].2)
def IH.tail{off:Nat}{s:e6×e6}{C:lh}(h:IH cs off (s::C)):IH cs (off+2) C:=fun i hi=>by have:=h (i+1) (by simp;omega);rw[show off+(i+1)*2=off+2+i*2 by omega] at this;simpa using this
def p8(B:List bG):lh->Nat
 | []=>1
 | s::C=>(gC B s).length*p8 B C
structure Vv (F:Nat->Prop) (wb:Nat) (B:List bG) (O:Int) (ao:Bool) (fI:World) (gs:Nat) (cs:Array Value) (D:Nat) (dx:Array Value) (bB T:Nat) (act:az->ez->az×ez) (P:lh->az->Prop) (gP:Option Nat->az->ez->World->Prop):Prop where
 at_:∀{G st aP w},gP G st aP w->aM F w wb G B O ao st
 n3:∀{G aF st hQ aP w w'},gP G st aP w->aR wb G aF w w'->aM F w' wb aF B O ao hQ->gP aF hQ aP w'
 same:∀{G st aP w},gP G st aP w->∀k,F k->w.heap[k]?=fI.heap[k]?
 src:∀{G st aP w},gP G st aP w->w.heap[gs]?=some (.cells cs 161 (0,0))
 len:∀{l st},P l st->st.ad.length+l.length=bB
 kI:∀{s C st row},P (s::C) st->row∈gC B s->P C {st with ad:=st.ad++[row]}
 out:∀{s C fZ st},P (s::C) fZ->P C st->P (s::C) {st with ad:=st.ad.take (st.ad.length-1)}
 Mb:∀{st aP},P [] st->st.dE=false->P [] (act st aP).1
 enter:∀args w,(callFunc D args).run prog w=.ok (.enter D args) w
 grow:∀{st aP},(act st aP).2.length<=aP.length+1
 ajs:∀{G st aP w},gP G st aP w->P [] st->st.dE=false->aP.length<T->ey D dx w fun e w'=>e=.returned (.tuple #[])/\∃aF,gP aF (act st aP).1 (act st aP).2 w'
def ajt{fI:World}{gs:Nat}{D:Nat}{dx:Array Value}{bB T:Nat}{act:az->ez->az×ez}{P:lh->az->Prop}{gP:Option Nat->az->ez->World->Prop}(E:Vv F wb B O ao fI gs cs D dx bB T act P gP)(bw:bB<=10000):∀(V:lh) (off af:Nat) (a:Option Addr) (G:Option Nat) (st:az) (aP:ez) (w:World) (c:Nat),aP.length<=c->c+p8 B V<=T->IH cs off V->V.length<=af->(0<V.length->a=some ⟨gs,off,none⟩)->(∀s∈V,(gC B s).length<=10000)->(∀s∈V,∃i,fD B s.1=some i)->P V st->gP G st aP w->ey 160 #[M wb,.slice a V.length af,.func (.func D) #[] dx] w fun e w'=>e=.returned (.tuple #[])/\∃aF,gP aF (hB B act V st aP).1 (hB B act V st aP).2 w'/\P V (hB B act V st aP).1/\(hB B act V st aP).2.length<=c+p8 B V:=by
 intro V;induction V with
 | nil=>
  intro off af a G st aP w c Fk bi Ay om ak ag av gA dP;have aO:=E.at_ dP;obtain⟨aE,b0,bf,cl,gc,iM,aI,-⟩:=aO.at_;have fO:dp w wb 5=some (.bool st.dE):=Z aI (i:=5) rfl;rw[hB];have eX:=E.enter;cases iT:st.dE with
  | true=>rw[if_pos rfl];rw[iT] at fO;have n4:=u (And.intro dP (And.intro gA (show aP.length<=c+p8 B [] by omega)));clear dP gA aO aI Ay ak ag av om bi Fk;go_enter func160,ntmps160;go_wp2_with fail;refine bodyPost_ret (v:=.tuple #[]) (by simp[results,results160,go_sem]) rfl ?_;first | exact⟨rfl,⟨G,n4.out.1⟩,n4.out.2⟩ | exact⟨rfl,G,n4.out.1,n4.out.2⟩
  | false=>rw[if_neg (by simp)];have np:p8 B []=1:=rfl;have ht:=u (E.ajs dP gA iT r);have lm:=u (And.intro (E.Mb (aP:=aP) gA iT) (show(act st aP).2.length<=c+p8 B [] by have:=E.grow (st:=st) (aP:=aP);omega));rw[iT] at fO;clear dP gA aO aI Ay ak ag av om iT bi Fk np;go_enter func160,ntmps160;go_wp2_with (go_at_fn D;refine ht.out.mono ?_;rintro e J ⟨rfl,aF,vu⟩);refine bodyPost_ret (v:=.tuple #[]) (by simp[results,results160,go_sem]) rfl ?_;first | exact⟨rfl,⟨aF,vu⟩,lm.out⟩ | exact⟨rfl,aF,vu,lm.out⟩
 | cons s C aH=>
  intro off af a G st aP w c Fk bi Ay om ak ag av gA dP;have ak:=ak (by simp);subst ak;have aO:=E.at_ dP;obtain⟨aE,b0,bf,cl,gc,iM,aI,-⟩:=aO.at_;have fO:dp w wb 5=some (.bool st.dE):=Z aI (i:=5) rfl;rw[hB];cases iT:st.dE with
  | true=>rw[if_pos rfl];rw[iT] at fO;have n4:=u (And.intro dP (And.intro gA (show aP.length<=c+p8 B (s::C) by omega)));clear dP gA aO aI Ay ag av om bi Fk;go_enter func160,ntmps160;go_wp2_with fail;refine bodyPost_ret (v:=.tuple #[]) (by simp[results,results160,go_sem]) rfl ?_;first | exact⟨rfl,⟨G,n4.out.1⟩,n4.out.2⟩ | exact⟨rfl,G,n4.out.1,n4.out.2⟩
  | false=>
   rw[if_neg (by simp)];rw[iT] at fO;obtain⟨i0,nM⟩:=av s (ax6 ..);have II:=u (Vq s.1 s.2 i0 w aO nM);have NK:=ag s (ax6 ..);have Az:=Ay 0 (by simp);simp only[Nat.zero_mul,Nat.add_zero,List.getElem_cons_zero] at Az;have bk:=Z (E.src dP) Az.1;have c1:=Z (E.src dP) Az.2
   have Vw:Hid (∀(af:Nat) (a:Option Addr) (G:Option Nat) (st:az) (aP:ez) (w:World) (c:Nat),aP.length<=c->c+p8 B C<=T->C.length<=af->(0<C.length->a=some ⟨gs,off+2,none⟩)->P C st->gP G st aP w->ey 160 #[M wb,.slice a C.length af,.func (.func D) #[] dx] w fun e w'=>e=.returned (.tuple #[])/\∃aF,gP aF (hB B act C st aP).1 (hB B act C st aP).2 w'/\P C (hB B act C st aP).1/\(hB B act C st aP).2.length<=c+p8 B C):=u (fun af a G st aP w c g1 g2 h1 H ab aK=>aH (off+2) af a G st aP w c g1 g2 Ay.tail h1 H (fun x aa=>ag x (List.mem_cons_of_mem _ aa)) (fun x aa=>av x (List.mem_cons_of_mem _ aa)) ab aK);have bK:=u E;have n4:=u dP;have lm:=u gA;have pN:C.length+1<=af:=by simpa using om
   have pK:(s::C).length=C.length+1:=rfl;rw[pK];have Cm:(gC B (s.1,s.2))=gC B s:=rfl;rw[Cm] at II;have N9:p8 B (s::C)=(gC B s).length*p8 B C:=rfl;rw[N9] at bi ⊢;have zE:Hid (∀x∈gC B s,∀st,P (s::C) st->P C {st with ad:=st.ad++[x]}):=u (fun x aa hQ h=>E.kI h aa);have nC:Hid (∀(hQ:az) (Oa:ez),oz (hB B act C) [] hQ Oa=(hQ,Oa)):=u (fun _ _=>rfl);generalize oF:oz (hB B act C) (gC B s) st aP=gh at *;have Fa:Hid (oz (hB B act C) ((gC B s).drop 0) st aP=gh):=u (by rw[List.drop_zero];exact oF);clear oF;generalize gC B s=l4 at *;generalize p8 B C=ox at *;have aju:Hid (aP.length<=c+0*ox):=u r;have Ob:Hid (c+l4.length*ox<=T):=u bi;clear bi Fk N9
   clear dP gA aO aI Ay ag av om iT nM Az aH E Cm pK;obtain⟨s1,s2⟩:=s;simp only[] at II bk c1;have dA:¬((C.length:Int)+1=0):=r;have er:(0:Int)<(C.length:Int)+1:=r;go_enter func160,ntmps160;go_upto_region 4 with(go_at_call 236;refine II.out.mono ?_;rintro e J ⟨Fi,rs,rfl,jZ,qK,bJ⟩;obtain⟨hl,Fl,rfl⟩:=cG jZ.1);have oG:Hid (∀G st aP W,gP G st aP W->eg F W 115 2 (.slice hl l4.length Fl) l4.length (cQ rs)/\dk F W rs l4):=u (fun aF hQ Oa W vu=>by
    have hm:dj F F J W:=fun k _ av=>⟨av,(bK.out.same vu k av).trans (((bJ.block k ((bK.out.at_ n4.out).fH k av)).trans (bK.out.same n4.out k av)).symm)⟩;exact⟨jZ.move hm,qK.move hm⟩)
   have yz:Hid (gP G st aP J):=u (bK.out.n3 n4.out (aR.of bJ) ((bK.out.at_ n4.out).below bJ));clear jZ qK bJ bk c1 fO II n4;have TQ:(0:Int)<=(l4.length:Int):=r;go_loopg [23] (l4.length+1) (fun U i wr=>∃(j:Nat) (p9:Option Nat) (c5:az) (Fm:ez),j<=l4.length/\i=q (j:Int)/\Hid (oz (hB B act C) (l4.drop j) c5 Fm=gh)/\Hid (gP p9 c5 Fm wr)/\Hid (P ((s1,s2)::C) c5)/\Hid (Fm.length<=c+j*ox)/\l4.length-j<U);case atStart=>exact⟨0,G,st,aP,bu,rfl,Fa,yz,lm,aju,r⟩
   case round=>
    obtain⟨j,p9,c5,Fm,aS,rfl,hinv,Fo,Fp,Oc,ae⟩:=hrel;by_cases aD:j<l4.length
    ·have cL:(j:Int)<(l4.length:Int):=r;obtain⟨jZ,qK⟩:=oG.out _ _ _ _ Fo.out;have asD:=qK.len;obtain⟨d1,d2⟩:=Hm rs j r;obtain⟨Od,rfl⟩:∃Od,hl=some ⟨Od,0,none⟩:=by
      rcases jZ.1.2 with⟨e,aw⟩ | ⟨g,af,ay,e,_⟩
      ·omega
      ·injection e with Y _ _;exact⟨g,Y⟩
     have c7:=jZ.1.cells rfl _ _ d1;have Y:=jZ.1.cells rfl _ _ d2;rw[Addr.add_lit,ax1] at c7 Y;obtain⟨ajv,IJ⟩:=qK.get j r aD;obtain⟨aC,fj,Vx⟩:=cG IJ.1;rw[Vx] at Y IJ;have asE:Od<wr.heap.size:=by
      rcases jZ.1.2 with⟨e,_⟩ | ⟨g,af,ay,e,_,cf,_⟩
      ·cases e
      ·injection e with e;injection e with e;injection e with e;subst e;exact(br cf).1
     have rX:=bK.out.at_ Fo.out;have qB:=bK.out.len Fp.out;have Vy:c+j*ox+ox<=T:=by have h1:(j+1)*ox<=l4.length*ox:=Nat.mul_le_mul_right _ aD;rw[Nat.add_mul,Nat.one_mul] at h1;have:=Ob.out;omega
     have ajw:=u Vy;clear Vy;have ch:=u ae;have nT:=ec aD;clear ae jZ d1 d2;generalize rs[j].1=ajx at *;subst ajv;have Cn:Hid (l4.drop j=l4[j]::l4.drop (j+1)):=u (List.drop_eq_getElem_cons aD);generalize l4[j]=lC at *;have IK:Below wr.heap.size wr (wr.alloc (.cells #[q (lC.1:Int),.slice aC lC.2.length fj] 115)).drew:=by have:=(Below.refl wr.heap.size wr).alloc ap (.cells #[q (lC.1:Int),.slice aC lC.2.length fj] 115);exact⟨this.os,this.tape,this.output,this.size,this.block⟩
     have g0:_=some (q (lC.1:Int)):=Z (bH wr (.cells #[q (lC.1:Int),.slice aC lC.2.length fj] 115)) (i:=0) rfl;have g1:_=some (Value.slice aC lC.2.length fj):=Z (bH wr (.cells #[q (lC.1:Int),.slice aC lC.2.length fj] 115)) (i:=1) rfl;obtain⟨eL,fm,bq,wZ,bh,p2,fw,⟨asF,pf⟩,rR,GH,sQ,vk⟩:=(rX.below IK).push (row:=lC) (IJ.move (fun k hk av=>⟨av,IK.block k hk⟩)) (by simp at qB;omega);have qa:=u fw;have Vz:=u (bK.out.n3 Fo.out ((aR.of IK).trans rX.lt vk) sQ);have VA:=u (zE.out lC nT c5 Fp.out);have A7:=rX.lt;have ajy:(wr.alloc (.cells #[q (lC.1:Int),.slice aC lC.2.length fj] 115)).cell? ⟨wb,2,none⟩=some (.slice eL c5.ad.length fm):=p2;have pK:(s1,s2)::C=(s1,s2)::C:=rfl
     have AA:wr.heap.size<(wr.alloc (.cells #[q (lC.1:Int),.slice aC lC.2.length fj] 115)).heap.size:=by rw[cc];omega
     have kP:wb<(wr.alloc (.cells #[q (lC.1:Int),.slice aC lC.2.length fj] 115)).heap.size:=by rw[cc];omega
     have ajz:¬wb=(wr.alloc (.cells #[q (lC.1:Int),.slice aC lC.2.length fj] 115)).heap.size:=r;clear fw sQ vk rX IJ nT Vx pK p2 IK;go_upto_region 6 with fail;generalize wr.alloc (.cells #[q (lC.1:Int),.slice aC lC.2.length fj] 115)=W at *;generalize wr.heap.size=aB at *;go_region_law (refine IG rfl (.tmp 31) (.tmp 33) 92 92 rfl (.slice eL c5.ad.length fm) (.slice (some ⟨W.heap.size,0,none⟩) 1 1) (by simp[Act.eval]) (by simp[Act.eval]) (qa.out _) ?_);all_goals
      generalize bh.setCell ⟨wb,2,none⟩ (.slice bq (c5.ad.length+1) wZ)=asG at *;have D3:(1:Int)<=(af:Int):=r;clear g0 g1 ajy pf rR AA kP ajz qa oG zE;have HX:c5.ad.length+(C.length+1)=bB:=qB;clear qB;go_upto_region 8 with(go_at_call 160;refine(Vw.out _ _ _ _ _ _ _ Oc.out ajw.out r (by first | (intro aY;simp;omega) | (intro aY;rw[if_neg r])) VA.out Vz.out).mono ?_;rintro e mL ⟨rfl,asH,IL,IM,hA7⟩);generalize (if af=1 then some (⟨gs,off,none⟩:Addr) else some ⟨gs,off+2,none⟩)=asI at *;have ajA:=bK.out.len IM;have Oe:=bK.out.at_ IL;generalize DI:hB B act C {c5 with ad:=c5.ad++[lC]} Fm=ajB at *;obtain⟨jm,jv⟩:=ajB;simp only[] at IL IM ajA Oe hA7;have ajC:Hid (jv.length<=c+(j+1)*ox):=u (by rw[Nat.add_mul,Nat.one_mul];omega);clear hA7
      obtain⟨g7,VC,t1,t2,t3,VD,t4,t5⟩:=Oe.pop r;have dy:Hid (gP VD {jm with ad:=jm.ad.take (jm.ad.length-1)} jv (mL.setCell ⟨wb,2,none⟩ (.slice (some ⟨g7,0,none⟩) (jm.ad.length-1) VC)).drew):=u (bK.out.n3 IL t5.drew t4.drew);have ajD:Hid (P ((s1,s2)::C) {jm with ad:=jm.ad.take (jm.ad.length-1)}):=u (bK.out.out Fp.out IM);have hW:Hid (oz (hB B act C) (l4.drop (j+1)) {jm with ad:=jm.ad.take (jm.ad.length-1)} jv=gh):=u (by
       have:=hinv.out;rw[Cn.out,oz,DI] at this;exact this)
      have asJ:IntKind.i64.wrap ((jm.ad.length:Int)-1)=((jm.ad.length-1:Nat):Int):=by rw[IntKind.wrap_i64];omega
      have t6:((jm.ad.length-1:Nat):Int)<=(VC:Int):=r;have vt:IntKind.i64.wrap ((j:Int)+1)=(j:Int)+1:=mC;clear IL IM t4 t5 DI Oe hinv Cn Vz VA;go_region_with fail;all_goals
       have ae:=ch.out;go_wp2_with fail;go_roundg (l4.length-j);case measure=>omega
       case rel=>exact⟨j+1,VD,_,jv,r,by go_num,hW,dy,ajD,ajC,r⟩
    ·have eZ:j=l4.length:=r;subst eZ;have cL:(l4.length:Int)<=(l4.length:Int):=r;have b1:=hinv.out;rw[List.drop_length,nC.out] at b1;have gJ:=u b1;clear b1 hinv ae oG zE nC Vw;go_wp2_with fail;go_end0;rw[<-gJ.out];first | exact⟨rfl,⟨p9,Fo.out⟩,Fp.out,Oc.out⟩ | exact⟨rfl,p9,Fo.out,Fp.out,Oc.out⟩
def ajE(g off af:Nat)(rc:List (Nat×Value))(w:World)(ai:∀(j:Nat) (bp:Value),(cQ rc)[j]?=some bp->dp w g (off+j)=some bp)(R:g<w.heap.size)(h1:∀bp∈cQ rc,bp.oneCell'=true)(hm:rc.length<=10000):ey 162 #[.slice (some ⟨g,off,none⟩) rc.length af] w fun e w'=>∃v,e=.returned v/\w'.ownsRow w.heap.size 115 2 v rc.length (cQ rc)/\Below w.heap.size w w':=by
 have dI:=(Below.refl w.heap.size w).alloc ap (.cells #[] 115);have B3:(w.alloc (.cells #[] 115)).ownsRow w.heap.size 115 2 (.slice (some ⟨w.heap.size,0,none⟩) 0 0) 0 []:=⟨rfl,.inr ⟨_,0,#[],rfl,ap,bH w _,ap,K,rfl,rfl⟩⟩;obtain⟨v5,bh,qA,jI,fh,Cj⟩:=MR underlying92 D7 rfl K K B3 (a:=⟨g,off,none⟩) (m:=rc.length) (c:=af) (ys:=cQ rc) (Hl rc) (fun j bp aS=>by rw[Addr.add_lit];exact dr dI (ai j bp aS) R) h1 r (by rw[cc];omega);have cK:=u qA;have dT:Hid (Below w.heap.size w bh):=u (by
  refine⟨fh.os.trans dI.os,fh.tape.trans dI.tape,fh.output.trans dI.output,bX dI.size fh.size,fun k hk=>(fh.block k (e0 hk dI.size) ?_).trans (dI.block k hk)⟩;intro e;have:w.heap.size=k:=by simpa [Value.ownBlock] using e.symm
  omega)
 have xO:Hid (bh.ownsRow w.heap.size 115 2 v5 rc.length (cQ rc)):=u (by simpa using jI);have U:∀(w:World) (a:Option Addr) (n c iG e7:Nat),(binOp .eql 92 (.slice a n c) (.slice none iG e7)).run prog w=.ok (.bool a.isNone) w:=fun w a n c iG e7=>Lib.run_eql_slice_nil w _ _ a n c iG e7 underlying92;clear qA jI fh Cj dI B3 ai h1;go_enter func162,ntmps162;go_wp2_with (at_builtin;refine Lib.wpList_append_run _ rfl _ _ _ _ rfl _ _ rfl rfl _ _ (cK.d _) ?_);go_ret;exact⟨_,rfl,xO.d,dT.d⟩
def ajF{w0 awp gD hM vv:Nat}{wv:Value}(b:Bool)(Q cm:World->Prop)(w:World)(bk:dp w w0 0=some (M wb))(c1:dp w awp 0=some (M aW))(c2:dp w aW 2=some wv)(cW:ey 72 #[M wb,wv] w.drew fun e J=>e=.returned (.bool b)/\Q J)(aN:∀J,Q J->dp J w0 0=some (M wb)/\dp J awp 0=some (M aW)/\dp J aW 2=some wv)(bj:b=false->∀J,Q J->cm J)(dy:b=true->∀J,Q J->∃g n fm ka fX sX,dp J gD 0=some (.slice ka fX sX)/\dp J hM 0=some (q (vv:Int))/\dp J wb 2=some (.slice (some ⟨g,0,none⟩) n fm)/\vv<n/\n<=fm/\ey 162 #[.slice (some ⟨g,vv*2,none⟩) (n-vv) (fm-vv)] J.drew fun e S=>∃aC c6 fj hl e2 Fl cw,e=.returned (.slice aC c6 fj)/\(dp S w0 0=some (M wb)/\dp S gD 0=some (.slice ka fX sX)/\gD<S.heap.size)/\(∀ty,(Builtin.append_ #[93,93] ty #[.slice ka fX sX,.slice (some ⟨S.heap.size,0,none⟩) 1 1]).run prog (S.alloc (.cells #[.slice aC c6 fj] 92))=.ok (.slice hl e2 Fl) cw)/\(∃x,dp cw gD 0=some x)/\cw.frozen? ⟨gD,0,none⟩=false/\cm (cw.setCell ⟨gD,0,none⟩ (.slice hl e2 Fl))):ey 161 #[M w0,M awp,M gD,M hM] w fun e w'=>e=.returned (.tuple #[])/\cm w':=by
 have cW:=u cW;have aN:=u aN;have bj:=u bj;have dy:=u dy;go_enter func161,ntmps161;go_upto_region 0 with fail;go_region_held3 (fun w'=>w'.cell? ⟨w0,0,none⟩=some (M wb)/\w'.cell? ⟨awp,0,none⟩=some (M aW)/\w'.cell? ⟨aW,2,none⟩=some wv) (go_keep) (first | (go_at_call 72;refine cW.d.mono ?_;rintro e J ⟨rfl,ae⟩;obtain⟨d0,d1,d2⟩:=aN.d J ae));cases b with
 | false=>have cK:=u (bj.d rfl J ae);clear cW aN bj dy;go_wp2_with fail;go_end0;exact⟨rfl,cK.d⟩
 | true=>
  obtain⟨g,n,fm,ka,fX,sX,c7,Y,am,bm,hq,ol⟩:=dy.d rfl J ae;have uu:=u ol;have f1:(vv:Int)<=(n:Int):=r;have f2:(n:Int)<=(fm:Int):=r;have f3:¬fm=vv:=r;have f4:¬fm-vv=0:=r;have f5:(vv:Int)<=(fm:Int):=r;clear cW aN bj dy ol ae bk c1 c2 d1 d2;go_upto_region 1 with fail;go_region_law (first | (go_simp;go_at_call 162;refine uu.d.mono ?_;rintro e S ⟨aC,c6,fj,hl,e2,Fl,cw,rfl,⟨pM,h0,gR⟩,tS,⟨asK,lA⟩,B6,b1⟩;have qa:=u tS;have w1:=u b1;clear tS b1) | (refine IG rfl (.tmp 10) (.tmp 18) 93 93 rfl (.slice ka fX sX) (.slice (some ⟨S.heap.size,0,none⟩) 1 1) (by simp[Act.eval]) (by simp[Act.eval]) (qa.d _) ?_));all_goals
   go_end0;exact⟨rfl,w1.d⟩
def boxes(w:World)(wb aW:Nat):World:=(w.alloc (.cells #[M wb] 153)).alloc (.cells #[M aW] 54)
def VE(w:World)(wb aW:Nat):Below w.heap.size w (boxes w wb aW):=cT.alloc (by rw[cc];omega) _
def ajG(w:World)(wb aW:Nat):(boxes w wb aW).heap.size=w.heap.size+2:=by unfold boxes;rw[cc,cc]
def VF(w:World)(wb aW:Nat):(boxes w wb aW).heap[w.heap.size]?=some (.cells #[M wb] 153 (0,0)):=(Below.heap_alloc _ _ w.heap.size (by rw[cc];omega)).trans (bH w _)
def VG(w:World)(wb aW:Nat):(boxes w wb aW).heap[w.heap.size+1]?=some (.cells #[M aW] 54 (0,0)):=by have U:=bH (w.alloc (.cells #[M wb] 153)) (.cells #[M aW] 54);rwa [cc] at U
def ajH{N:Nat}{sv:Value}(Q:World->Prop)(cm:Value->World->Prop)(w:World)(tj:wb<w.heap.size)(xB:aW<w.heap.size)(c1:dp w aW 1=some sv)(aN:ey 159 #[M wb,sv] (boxes w wb aW).drew fun e J=>e=.returned (q (N:Int))/\Q J)(ch:∀J,Q J->w.heap.size+2<=J.heap.size/\dp J w.heap.size 0=some (M wb)/\dp J (w.heap.size+1) 0=some (M aW)/\dp J aW 1=some sv/\∃eL fm,dp J wb 2=some (.slice eL n fm))(kN:N=0->∀J,Q J->cm (.slice none 0 0) J)(bK:N≠0->∀J,Q J->ey 160 #[M wb,sv,.func (.func 161) #[] #[M w.heap.size,.pointer (some ⟨w.heap.size+1,0,none⟩),M J.heap.size,.pointer (some ⟨J.heap.size+1,0,none⟩)]] ((J.alloc (.cells #[.slice none 0 0] 93)).alloc (.cells #[q (n:Int)] 3)).drew fun e aA=>e=.returned (.tuple #[])/\∃ka fX gH,dp aA J.heap.size 0=some (.slice ka fX gH)/\(dp aA w.heap.size 0=some (M wb)/\dp aA (w.heap.size+1) 0=some (M aW)/\dp aA aW 1=some sv)/\cm (.slice ka fX gH) aA):ey 111 #[M wb,M aW] w fun e w'=>∃gr,e=.returned gr/\cm gr w':=by
 have lg:=u aN;have Fq:=u ch;have Of:=u kN;have zk:=u bK;have hr:(boxes w wb aW).cell? ⟨w.heap.size,0,none⟩=some (M wb):=Z (VF w wb aW) rfl;have cN:(boxes w wb aW).cell? ⟨w.heap.size+1,0,none⟩=some (M aW):=Z (VG w wb aW) rfl;have bL:(boxes w wb aW).cell? ⟨aW,1,none⟩=some sv:=dr (VE w wb aW) c1 xB;clear aN ch kN bK c1;go_enter func111,ntmps111;go_upto_region 1 with fail;have aT:(w.alloc (.cells #[M wb] 153)).alloc (.cells #[M aW] 54)=boxes w wb aW:=rfl;rw[aT];clear aT;generalize boxes w wb aW=hz at *
 go_region_held3 (fun w'=>w'.cell? ⟨w.heap.size,0,none⟩=some (M wb)/\w'.cell? ⟨w.heap.size+1,0,none⟩=some (M aW)/\w'.cell? ⟨aW,1,none⟩=some sv) (go_keep) (first | (go_at_call 159;refine lg.d.mono ?_;rintro e J ⟨rfl,ae⟩;obtain⟨d0,d1,d2,d3,eL,fm,d4⟩:=Fq.d J ae));by_cases cS:N=0
 ·have cK:=u (Of.d cS J ae);have Og:((N:Int)==0)=true:=by subst cS;rfl
  clear lg Fq Of zk;rw[Og];go_wp2_with fail;go_ret;exact⟨_,rfl,cK.d⟩
 ·have cK:=u (zk.d cS J ae);have Og:((N:Int)==0)=false:=by rw[cV];omega
  rw[Og];have z0:w.heap.size<J.heap.size:=r;have b3:w.heap.size+1<J.heap.size:=r;have z2:wb<J.heap.size:=r;have z3:aW<J.heap.size:=r;clear lg Fq Of zk hr cN bL ae;have ah:Below J.heap.size J ((J.alloc (.cells #[.slice none 0 0] 93)).alloc (.cells #[q (n:Int)] 3)):=cT.alloc (by rw[cc];omega) _;have dN:=dr ah d1 z0;have bz:=dr ah d2 b3;have cz:=dr ah d3 z3;clear ah;go_upto_region 5 with fail;generalize ((J.alloc (.cells #[.slice none 0 0] 93)).alloc (.cells #[q (n:Int)] 3))=h5 at *;generalize J.heap.size=Ac at *;clear d0 d1 d2 d3 d4
  go_region_held3 (fun w'=>w'.cell? ⟨w.heap.size,0,none⟩=some (M wb)/\w'.cell? ⟨w.heap.size+1,0,none⟩=some (M aW)/\w'.cell? ⟨aW,1,none⟩=some sv) (go_keep) (first | (go_at_call 160;refine cK.d.mono ?_;rintro e aA ⟨rfl,ka,fX,gH,h0,⟨fP,mq,Oh⟩,gR⟩));have w1:=u gR;clear gR;go_wp2_with fail;go_ret;exact⟨_,rfl,w1.d⟩
def yA(F:Nat->Prop)(wb:Nat)(G:Option Nat)(B:List bG)(O:Int)(w:World)(b:Nat)(st:az)(vs:List al)(st2:az):Prop:=∀W,aR wb G G w W->aM F W wb G B O true st->ey 249 #[M wb,M b] W fun e w'=>∃v,e=.returned v/\w'.ownsRow W.heap.size 112 3 v vs.length (fc vs)/\aM F w' wb G B O true st2/\aR wb G G W w'
def Fr(h:aM F w wb G B O true st)(gN:yA F wb G B O w b st vs st2):ey 249 #[M wb,M b] (w.alloc (.cells #[q 0,q 0,.string ⟨#[]⟩] 112)) fun e J=>∃aC bA,e=.returned (.slice aC vs.length bA)/\J.ownsRow (w.heap.size+1) 112 3 (.slice aC vs.length bA) vs.length (fc vs)/\aM F J wb G B O true st2/\aR wb G G w J/\J.heap[w.heap.size]?=some (.cells #[q 0,q 0,.string ⟨#[]⟩] 112 (0,0)):=by
 refine(gN _ (ja wb G _) (h.alloc _)).mono ?_;rintro e J ⟨v,rfl,an,dl,hk⟩;rw[cc] at an;obtain⟨aC,bA,rfl⟩:∃aC bA,v=.slice aC vs.length bA:=by
  rcases an.2 with⟨rfl,aw⟩ | ⟨x,af,ay,rfl,_⟩
  ·exact⟨_,_,by rw[aw]⟩
  ·exact⟨_,_,rfl⟩
 exact⟨aC,bA,rfl,an,dl,(ja wb G _).trans h.lt hk,hk.gg (h.alloc _) K K (bH w _)⟩
def ajI(h:aM F w wb G B O true st)(gN:yA F wb G B O w b st vs st2)(_:vs.length<=20000):ey 181 #[M wb,M b] w (gO F wb G B O true (cb (iX vs.length)) st2 w):=by
 have aN:=u (Fr h gN);have cx:=u h;clear gN h;go_enter func181,ntmps181;go_wp2_with (first | (go_at_call 45;refine(tg _ _).mono ?_;rintro e S ⟨rfl,ah⟩;have jb:=(ah.block _ (br aT).1).trans aT;have d0:=Z jb (i:=0) rfl;have d1:=Z jb (i:=1) rfl;have d2:=Z jb (i:=2) rfl;have f0:=aQ (i:=0) jb;have f1:=aQ (i:=1) jb;have f2:=aQ (i:=2) jb) | (go_at_call 249;refine aN.d.mono ?_;rintro e J ⟨aC,bA,rfl,an,dl,hk,aT⟩));have aY:=io (x:=q 1) (y:=q (vs.length:Int)) (z:=.string ⟨#[]⟩) jb;have z0:=Z aY (i:=0) rfl;have b3:=Z aY (i:=1) rfl;have z2:=Z aY (i:=2) rfl
 refine bodyPost_ret (v:=.agg #[q 1,q (vs.length:Int),.string ⟨#[]⟩]) (by simp[results,results181,go_sem,z0,b3,z2]) rfl (kd cx.d (dl.below ah) (hk.below ah) _ _ _)
def Oi(h:aM F w wb G B O true st)(gN:yA F wb G B O w b st [] st2):ey 182 #[M wb,M b] w (gO F wb G B O true (cb al.zero) st2 w)/\ey 183 #[M wb,M b] w (gO F wb G B O true (cb al.zero) st2 w)/\ey 184 #[M wb,M b] w (gO F wb G B O true (cb al.zero) st2 w):=by
 have aN:=u (Fr h gN);have cx:=u h;clear gN h;refine⟨?_,?_,?_⟩
 ·go_enter func182,ntmps182;go_wp2_with (go_at_call 249;refine aN.d.mono ?_;rintro e J ⟨aC,bA,rfl,an,dl,hk,aT⟩;have d0:=Z aT (i:=0) rfl;have d1:=Z aT (i:=1) rfl;have d2:=Z aT (i:=2) rfl;have f0:=aQ (i:=0) aT;have f1:=aQ (i:=1) aT;have f2:=aQ (i:=2) aT);have aY:=io (x:=q 0) (y:=q 0) (z:=.string ⟨#[]⟩) aT;have z0:=Z aY (i:=0) rfl;have b3:=Z aY (i:=1) rfl;have z2:=Z aY (i:=2) rfl;refine bodyPost_ret (v:=.agg #[q 0,q 0,.string ⟨#[]⟩]) (by simp[results,results182,go_sem,z0,b3,z2]) rfl (kd cx.d dl hk _ _ _)
 ·go_enter func183,ntmps183;go_wp2_with (go_at_call 249;refine aN.d.mono ?_;rintro e J ⟨aC,bA,rfl,an,dl,hk,aT⟩;have d0:=Z aT (i:=0) rfl;have d1:=Z aT (i:=1) rfl;have d2:=Z aT (i:=2) rfl;have f0:=aQ (i:=0) aT;have f1:=aQ (i:=1) aT;have f2:=aQ (i:=2) aT);have aY:=io (x:=q 0) (y:=q 0) (z:=.string ⟨#[]⟩) aT;have z0:=Z aY (i:=0) rfl;have b3:=Z aY (i:=1) rfl;have z2:=Z aY (i:=2) rfl;refine bodyPost_ret (v:=.agg #[q 0,q 0,.string ⟨#[]⟩]) (by simp[results,results183,go_sem,z0,b3,z2]) rfl (kd cx.d dl hk _ _ _)
 ·go_enter func184,ntmps184;go_wp2_with (go_at_call 249;refine aN.d.mono ?_;rintro e J ⟨aC,bA,rfl,an,dl,hk,aT⟩;have d0:=Z aT (i:=0) rfl;have d1:=Z aT (i:=1) rfl;have d2:=Z aT (i:=2) rfl;have f0:=aQ (i:=0) aT;have f1:=aQ (i:=1) aT;have f2:=aQ (i:=2) aT);have aY:=io (x:=q 0) (y:=q 0) (z:=.string ⟨#[]⟩) aT;have z0:=Z aY (i:=0) rfl;have b3:=Z aY (i:=1) rfl;have z2:=Z aY (i:=2) rfl;refine bodyPost_ret (v:=.agg #[q 0,q 0,.string ⟨#[]⟩]) (by simp[results,results184,go_sem,z0,b3,z2]) rfl (kd cx.d dl hk _ _ _)
def n5(l:List al)(j:Nat):Int:=(l.take j).foldl (fun t x=>t+x.num) 0
def VH(h:j<l.length):n5 l (j+1)=n5 l j+l[j].num:=by unfold n5;rw[jD h,List.foldl_append];rfl
def Oj(hv:∀v∈l,fv v):∀j,j<=l.length->-(1000000000000*(j:Int))<=n5 l j/\n5 l j<=1000000000000*(j:Int):=by
 intro j;induction j with
 | zero=>intro _;simp[n5]
 | succ j aH=>intro aS;obtain⟨h1,H⟩:=aH r;have hm:=hv l[j] (ec r);have bq:=hm.low;have a2:=hm.high;rw[VH r];constructor<;>(rw[Int.natCast_add,Int.mul_add];simp only[Int.natCast_one,Int.mul_one];omega)
def ajJ(h:aM F w wb G B O true st)(gN:yA F wb G B O w b st l st2)(aw:0<l.length)(X:l.length<=20000)(hv:∀v∈l,fv v):ey 182 #[M wb,M b] w (gO F wb G B O true (cb (iY (l.foldl (fun t x=>t+x.num) 0) st2).1) (iY (l.foldl (fun t x=>t+x.num) 0) st2).2 w):=by
 have aN:=u (Fr h gN);have cx:=u h;have ajK:=u (Oj hv);have cq:l.foldl (fun t x=>t+x.num) 0=n5 l l.length:=by unfold n5;rw[List.take_length]
 rw[cq];have AB:Hid (∀J,aM F J wb G B O true st2->ey 247 #[M wb,q (n5 l l.length)] J (gO F wb G B O true (cb (iY (n5 l l.length) st2).1) (iY (n5 l l.length) st2).2 J)):=u (fun J q8=>Nt _ J (by obtain⟨x,y⟩:=Oj hv l.length ap;omega) (by obtain⟨x,y⟩:=Oj hv l.length ap;omega) q8);have cy:¬((l.length:Int)=0):=r;have VI:((l.length:Int)==0)=false:=by rw[cV];exact cy
 clear gN h hv cq;generalize iY (n5 l l.length) st2=cm at *;obtain⟨⟨a6,dm,dd⟩,wR⟩:=cm;unfold cb at AB ⊢;simp only[] at AB ⊢;generalize a7 dd=e3 at *;go_enter func182,ntmps182;go_upto_region 6 with(go_at_call 249;refine aN.d.mono ?_;rintro e J ⟨aC,bA,rfl,an,dl,hk,aT⟩);obtain⟨gv,rfl,ef⟩:∃gv,aC=some ⟨gv,0,none⟩/\gv<J.heap.size:=by
  rcases an.2 with⟨_,aY⟩ | ⟨x,af,ay,e,_,aa,_⟩
  ·omega
  ·injection e with Y am bm;exact⟨x,Y,(br aa).1⟩
 have wV:Hid (∀(w':World) (j:Nat) (aS:j<l.length),eB J w'->dp w' gv (j*3)=some (q (l[j].kind:Int))/\dp w' gv (j*3+1)=some (q l[j].num)/\dp w' gv (j*3+2)=some (.string (a7 l[j].du))):=u (fun w' j aS A=>by
  obtain⟨h1,H,ab⟩:=wu l j aS;have dz:∀i x,(fc l)[i]?=some x->dp w' gv i=some x:=fun i x aa=>by have:=an.cells rfl i x aa;rw[Addr.add_lit,ax1] at this;exact dr A this ef
  exact⟨dz _ _ h1,dz _ _ H,dz _ _ ab⟩)
 have yq:=u dl;have ajL:=u hk;have rG:=u aT;clear an dl hk aT aN;go_loopg [6,18] (l.length+1) (fun U ajM i wr=>∃j:Nat,j<=l.length/\ajM=q (n5 l j)/\i=q (j:Int)/\Hid (eB J wr)/\l.length-j<U);case atStart=>exact⟨0,bu,rfl,rfl,u (Below.refl _ _),r⟩
 case round=>
  obtain⟨j,aS,rfl,rfl,eG,ae⟩:=hrel;by_cases aD:j<l.length
  ·have cL:(j:Int)<(l.length:Int):=r;have fr:IntKind.i64.wrap ((j:Int)+1)=(j:Int)+1:=mC;obtain⟨a0,bq,a2⟩:=wV.d wr j aD eG.d;have Q1:IntKind.i64.wrap (n5 l j+l[j].num)=n5 l (j+1):=by rw[<-VH aD];obtain⟨x,y⟩:=ajK.d (j+1) r;rw[IntKind.wrap_i64];omega
   have ch:=u ae;clear ae;generalize n5 l j=asL at *;generalize VJ:n5 l (j+1)=asM at *;have ajN:=u VJ;clear VJ;generalize a7 l[j].du=Ck at *;generalize l[j].num=ajx at *;generalize l[j].kind=asN at *;go_wp2_with fail;all_goals
    have ae:=ch.d;go_roundg (l.length-j);case measure=>omega
    case rel=>exact⟨j+1,r,by rw[ajN.d],by go_num,u (eG.d.alloc eG.d.size _),r⟩
  ·obtain rfl:j=l.length:=r;have cL:¬((l.length:Int)<(l.length:Int)):=r;have aT:=(eG.d.block _ (br rG.d).1).trans rG.d;have VK:=u (yq.d.below eG.d);have ajO:=u (ajL.d.below eG.d);have ajP:=u aT;clear aT eG ae;generalize n5 l l.length=asO at *;go_wp2_with (go_at_call 247;refine(AB.d _ VK.d).mono ?_;rintro e S ⟨rfl,lB,dR⟩;have jb:=dR.gg VK.d K K ajP.d;have d0:=Z jb (i:=0) rfl;have d1:=Z jb (i:=1) rfl;have d2:=Z jb (i:=2) rfl;have f0:=aQ (i:=0) jb;have f1:=aQ (i:=1) jb;have f2:=aQ (i:=2) jb);have aY:=io (x:=q (a6:Int)) (y:=q dm) (z:=.string e3) jb;have z0:=Z aY (i:=0) rfl;have b3:=Z aY (i:=1) rfl;have z2:=Z aY (i:=2) rfl
   refine bodyPost_ret (v:=.agg #[q (a6:Int),q dm,.string e3]) (by simp[results,results182,go_sem,z0,b3,z2]) rfl (kd cx.d lB (ajO.d.trans (cx.d.lt) dR) _ _ _)
def ajQ(h:aM F w wb G B O true st)(gN:yA F wb G B O w b st l st2)(aw:0<l.length)(X:l.length<=20000):ey 183 #[M wb,M b] w (gO F wb G B O true (cb (ny l[0] (l.drop 1))) st2 w):=by
 have aN:=u (Fr h gN);have cx:=u h;have hT:Hid (∀(aC:Option Addr) (bA lo:Nat) (J:World),J.ownsRow lo 112 3 (.slice aC l.length bA) l.length (fc l)->ey 250 #[.slice aC l.length bA,.func (.func 79) #[] #[]] J (gU J (cb (ny l[0] (l.drop 1))))):=u (fun aC bA lo J an=>by
  obtain⟨gv,rfl⟩:∃gv,aC=some ⟨gv,0,none⟩:=by
   rcases an.2 with⟨_,aY⟩ | ⟨x,af,ay,e,_,aa,_⟩
   ·omega
   ·injection e with Y am bm;exact⟨x,Y⟩
  exact aqw _ ny _ (fun _=>rfl) (fun m v C=>by rw[ny];simp) (.inl ⟨rfl,rfl⟩) gv bA lo l J aw r an)
 have cy:¬((l.length:Int)=0):=r;have VI:((l.length:Int)==0)=false:=by rw[cV];exact cy
 clear gN h;generalize ny l[0] (l.drop 1)=cm at *;obtain⟨a6,dm,dd⟩:=cm;unfold cb at hT ⊢;simp only[] at hT ⊢;generalize a7 dd=e3 at *;go_enter func183,ntmps183;go_wp2_with (first | (go_at_call 250;refine(hT.d _ _ _ _ an).mono ?_;rintro e S ⟨rfl,ah⟩;have jb:=(ah.block _ (br aT).1).trans aT;have d0:=Z jb (i:=0) rfl;have d1:=Z jb (i:=1) rfl;have d2:=Z jb (i:=2) rfl;have f0:=aQ (i:=0) jb;have f1:=aQ (i:=1) jb;have f2:=aQ (i:=2) jb) | (go_at_call 249;refine aN.d.mono ?_;rintro e J ⟨aC,bA,rfl,an,dl,hk,aT⟩));have aY:=io (x:=q (a6:Int)) (y:=q dm) (z:=.string e3) jb;have z0:=Z aY (i:=0) rfl;have b3:=Z aY (i:=1) rfl;have z2:=Z aY (i:=2) rfl
 refine bodyPost_ret (v:=.agg #[q (a6:Int),q dm,.string e3]) (by simp[results,results183,go_sem,z0,b3,z2]) rfl (kd cx.d (dl.below ah) (hk.below ah) _ _ _)
def ajR(h:aM F w wb G B O true st)(gN:yA F wb G B O w b st l st2)(aw:0<l.length)(X:l.length<=20000):ey 184 #[M wb,M b] w (gO F wb G B O true (cb (nz l[0] (l.drop 1))) st2 w):=by
 have aN:=u (Fr h gN);have cx:=u h;have hT:Hid (∀(aC:Option Addr) (bA lo:Nat) (J:World),J.ownsRow lo 112 3 (.slice aC l.length bA) l.length (fc l)->ey 251 #[.slice aC l.length bA,.func (.func 79) #[] #[]] J (gU J (cb (nz l[0] (l.drop 1))))):=u (fun aC bA lo J an=>by
  obtain⟨gv,rfl⟩:∃gv,aC=some ⟨gv,0,none⟩:=by
   rcases an.2 with⟨_,aY⟩ | ⟨x,af,ay,e,_,aa,_⟩
   ·omega
   ·injection e with Y am bm;exact⟨x,Y⟩
  exact aqw _ nz _ (fun _=>rfl) (fun m v C=>by rw[nz];simp) (.inr ⟨rfl,rfl⟩) gv bA lo l J aw r an)
 have cy:¬((l.length:Int)=0):=r;have VI:((l.length:Int)==0)=false:=by rw[cV];exact cy
 clear gN h;generalize nz l[0] (l.drop 1)=cm at *;obtain⟨a6,dm,dd⟩:=cm;unfold cb at hT ⊢;simp only[] at hT ⊢;generalize a7 dd=e3 at *;go_enter func184,ntmps184;go_wp2_with (first | (go_at_call 251;refine(hT.d _ _ _ _ an).mono ?_;rintro e S ⟨rfl,ah⟩;have jb:=(ah.block _ (br aT).1).trans aT;have d0:=Z jb (i:=0) rfl;have d1:=Z jb (i:=1) rfl;have d2:=Z jb (i:=2) rfl;have f0:=aQ (i:=0) jb;have f1:=aQ (i:=1) jb;have f2:=aQ (i:=2) jb) | (go_at_call 249;refine aN.d.mono ?_;rintro e J ⟨aC,bA,rfl,an,dl,hk,aT⟩));have aY:=io (x:=q (a6:Int)) (y:=q dm) (z:=.string e3) jb;have z0:=Z aY (i:=0) rfl;have b3:=Z aY (i:=1) rfl;have z2:=Z aY (i:=2) rfl
 refine bodyPost_ret (v:=.agg #[q (a6:Int),q dm,.string e3]) (by simp[results,results184,go_sem,z0,b3,z2]) rfl (kd cx.d (dl.below ah) (hk.below ah) _ _ _)
def kS:List (az->al×az)->az->List al×az
 | [],st=>([],st)
 | f::C,st=>((f st).1::(kS C (f st).2).1,(kS C (f st).2).2)
def WA:∀(l:List (az->al×az)) (st:az),(kS l st).1.length=l.length
 | [],_=>rfl
 | f::C,st=>by rw[kS,di,di,WA C]
def WB(f:az->al×az):∀(l:List (az->al×az)) (st:az),kS (l++[f]) st=((kS l st).1++[(f (kS l st).2).1],(f (kS l st).2).2)
 | [],_=>rfl
 | g::C,st=>by rw[List.cons_append,kS,WB f C,kS];rfl
def xe(F:Nat->Prop)(wb:Nat)(G:Option Nat)(B:List bG)(O:Int)(ao:Bool)(ok:az->Prop)(w:World):List Value->List (az->al×az)->Prop
 | [],[]=>True
 | x::xs,f::fe=>(p5 F wb G B O ao ok w x f/\∀st,ok st->ok (f st).2)/\xe F wb G B O ao ok w xs fe
 | _,_=>False
def xe.len{F:Nat->Prop}{wb:Nat}{G:Option Nat}{B:List bG}{O:Int}{ao:Bool}{ok:az->Prop}{w:World}:∀{xs:List Value} {fe:List (az->al×az)},xe F wb G B O ao ok w xs fe->xs.length=fe.length
 | [],[],_=>rfl
 | _::_,_::_,h=>by rw[di,di,xe.len h.2]
 | [],_::_,h=>h.elim
 | _::_,[],h=>h.elim
def xe.get{F:Nat->Prop}{wb:Nat}{G:Option Nat}{B:List bG}{O:Int}{ao:Bool}{ok:az->Prop}{w:World}:∀{xs:List Value} {fe:List (az->al×az)},xe F wb G B O ao ok w xs fe->∀(j:Nat) (h1:j<xs.length) (H:j<fe.length),p5 F wb G B O ao ok w xs[j] fe[j]/\∀st,ok st->ok (fe[j] st).2
 | [],[],_,j,h1,_=>absurd h1 (fp _)
 | _::_,_::_,h,0,_,_=>h.1
 | _::_,_::_,h,j+1,a,b=>xe.get h.2 j (by simpa using a) (by simpa using b)
 | [],_::_,h,_,_,_=>h.elim
 | _::_,[],h,_,_,_=>h.elim
def alU{ay:Array Value}{l:List Value}(x y z:Value)(h:ay.toList.take (j*3)=l)(hs:ay.size=n*3)(aS:j<n):(((ay.setIfInBounds (j*3) x).setIfInBounds (j*3+1) y).setIfInBounds (j*3+2) z).toList.take ((j+1)*3)=l++[x,y,z]/\(((ay.setIfInBounds (j*3) x).setIfInBounds (j*3+1) y).setIfInBounds (j*3+2) z).size=n*3:=by
 have X:l.length=j*3:=by rw[<-h,List.length_take,ax7];omega
 refine⟨?_,by simpa using hs⟩;apply List.ext_getElem?;intro i;rw[List.getElem?_take];by_cases hi:i<(j+1)*3
 ·rw[if_pos hi];simp only[Array.getElem?_toList,Array.getElem?_setIfInBounds,Array.size_setIfInBounds,hs];by_cases aw:i<j*3
  ·rw[if_neg r,if_neg r,if_neg r,List.getElem?_append_left r,<-h,List.getElem?_take,if_pos aw,Array.getElem?_toList]
  ·rw[List.getElem?_append_right r,X];have:i=j*3\/i=j*3+1\/i=j*3+2:=r;rcases this with rfl | rfl | rfl
   ·rw[if_neg r,if_neg r,if_pos rfl,if_pos r,Nat.sub_self];rfl
   ·rw[if_neg r,if_pos rfl,if_pos r,show j*3+1-j*3=1 by omega];rfl
   ·rw[if_pos rfl,if_pos r,show j*3+2-j*3=2 by omega];rfl
 ·rw[if_neg hi,List.getElem?_eq_none];rw[cu,X];simp;omega
def alV(ev:Value)(xs:List Value)(fe:List (az->al×az))(w:World)(h:aM F w wb G B O ao st)(gK:ok st)(an:eK w ev xs)(cq:xe F wb G B O ao ok w xs fe)(b7:xs.length<=10000):ey 73 #[M wb,ev] w fun e w'=>∃v,e=.returned v/\w'.ownsRow w.heap.size 112 3 v (kS fe st).1.length (fc (kS fe st).1)/\aM F w' wb G B O ao (kS fe st).2/\aR wb G G w w'/\ok (kS fe st).2:=by
 obtain⟨a,af,rfl⟩:=cG an;have FL:=cq.len;have X:=h.lt;have mG:=u cq;have e9:Hid (∀W,aR wb G G w W->eK W (.slice a xs.length af) xs):=u (fun W hk=>hk.l3 h K K an);have cx:=u h;have zK:=u gK;have fk:=u FL;have zJ:(0:Int)<=(xs.length:Int):=r;obtain⟨i0,nM,gj,gx,cd⟩:=info_parts Lz;have Ae:i0.bytes*xs.length<=281474976710656:=by rw[cd];omega
 have wG:xs.length<=maxLen:=by unfold maxLen;omega
 clear cq an h gK FL;go_enter func73,ntmps73;go_upto_region 1 with fail;go_upto_region 2 with(refine wpList_make_full w rfl _ _ 104 rfl w.heap.size 112 i0 _ 3 underlying104 nM gj gx _ _ _ _ xs.length rfl rfl rfl rfl Ae wG ap ?_;rintro J zA oX);obtain⟨zI,dG,dV⟩:∃ay,J.heap[w.heap.size]?=some (.cells ay 112 (0,0))/\ay.size=xs.length*3:=by
  rcases zA.2 with⟨e,_⟩ | ⟨g,af,ay,e,_,bN,_,_,j4,_⟩
  ·cases e
  ·injection e with Y am bm;injection Y with Y;injection Y with Y;subst Y bm;exact⟨ay,bN,j4⟩
 have bJ:eB w J:=⟨oX.os,oX.tape,oX.output,oX.size,fun k hk=>oX.block k hk (by simp)⟩;have qN:=u bJ;have gu:Hid (∃ay:Array Value,J.heap[w.heap.size]?=some (.cells ay 112 (0,0))/\ay.size=xs.length*3/\ay.toList.take (0*3)=fc (kS (fe.take 0) st).1):=u ⟨zI,dG,dV,by simp[kS,fc]⟩;clear zA oX dG dV bJ;go_upto_region 3 with fail;go_loopg [13] (xs.length+1) (fun U i wr=>∃(j:Nat),j<=xs.length/\i=q (j:Int)/\Hid (aM F wr wb G B O ao (kS (fe.take j) st).2)/\Hid (aR wb G G w wr)/\Hid (ok (kS (fe.take j) st).2)/\Hid (∃ay:Array Value,wr.heap[w.heap.size]?=some (.cells ay 112 (0,0))/\ay.size=xs.length*3/\ay.toList.take (j*3)=fc (kS (fe.take j) st).1)/\xs.length-j<U)
 case atStart=>exact⟨0,bu,rfl,u (cx.d.below qN.d),u (aR.of qN.d),zK,gu,r⟩
 case round=>
  obtain⟨j,aS,rfl,dl,sU,Aq,vx,ae⟩:=hrel;by_cases aD:j<xs.length
  ·have cL:(j:Int)<(xs.length:Int):=r;have FL:j<fe.length:=by have:=fk.d;omega
   obtain⟨g,cJ,bo,bk⟩:=(e9.d _ sU.d).cell j aD;obtain⟨rfl,rfl⟩:a=some ⟨g,0,none⟩/\af=cJ:=by injection bo with Y am bm;exact⟨Y,bm⟩
   obtain⟨eU,cv⟩:=mG.d.get j aD FL;have mK:=eU wr (kS (fe.take j) st).2 sU.d dl.d Aq.d;have hs:=WB fe[j] (fe.take j) st;rw[<-jD FL] at hs;have WC:=cv _ Aq.d;obtain⟨ay,aI,aZ,a6⟩:=vx.d;have DS:ay[j*3]?=some (ay[j*3]'r):=Array.getElem?_eq_getElem _;have jZ:ay[j*3+1]?=some (ay[j*3+1]'r):=Array.getElem?_eq_getElem _;have qK:ay[j*3+2]?=some (ay[j*3+2]'r):=Array.getElem?_eq_getElem _;have alW:Hid (∀S,aR wb G G wr S->S.heap[w.heap.size]?=some (.cells ay 112 (0,0))):=u (fun S dR=>dR.gg dl.d K K aI);have oG:=u (And.intro DS (And.intro jZ qK));have alX:(0:Int)<=(j:Int):=r;have vt:IntKind.i64.wrap ((j:Int)+1)=(j:Int)+1:=mC;generalize ay[j*3]'r=as8 at *;generalize ay[j*3+1]'r=yM at *;generalize ay[j*3+2]'r=as9 at *
   generalize av:fe[j] (kS (fe.take j) st).2=cm at *;obtain⟨⟨Jb,uD,rw⟩,ata⟩:=cm;have aN:=u mK;unfold cb at aN;simp only[] at aN;have ch:=u ae;have tR:=u hs;have CD:=u WC;have FM:=u (And.intro aI (And.intro aZ a6));have cy:w.heap.size<wr.heap.size:=(br aI).1;clear mK eU cv hs WC aI aZ a6 ae vx DS jZ qK av bo;generalize xs[j]=x at *;generalize BW:a7 rw=k5 at *;have alY:=u BW;clear BW;go_wp2_with (go_at_call 116;refine aN.d.mono ?_;rintro e S ⟨rfl,lB,dR⟩;have hA2:=alW.d S dR;have pM:=Z hA2 oG.d.1;have h0:=Z hA2 oG.d.2.1;have gR:=Z hA2 oG.d.2.2;have z0:=aQ (i:=j*3) hA2;have b3:=aQ (i:=j*3+1) hA2;have z2:=aQ (i:=j*3+2) hA2);have ae:=ch.d;have Ct:¬F w.heap.size:=fun e=>by have:=cx.d.fH _ e;omega
   have O3:w.heap.size≠wb:=by have:=cx.d.lt;omega
   have O4:G≠some w.heap.size:=fun e=>by have:=(cx.d.mZ _ e).1;omega
   have alZ:=(((sU.d.trans cx.d.lt dR).later ap (j*3) (q (Jb:Int))).later ap (j*3+1) (q uD)).later ap (j*3+2) (.string k5);have al0:=((lB.other Ct O3 O4 (j*3) (q (Jb:Int))).other Ct O3 O4 (j*3+1) (q uD)).other Ct O3 O4 (j*3+2) (.string k5);have al1:=hc (o:=j*3+2) (hc (o:=j*3+1) (hc (o:=j*3) hA2 (q (Jb:Int))) (q uD)) (.string k5);obtain⟨t1,t2⟩:=alU (q (Jb:Int)) (q uD) (.string k5) FM.d.2.2 FM.d.2.1 aD;go_roundg (xs.length-j);case measure=>omega
   case rel=>
    refine⟨j+1,r,by go_num,?_,u alZ,?_,?_,r⟩
    ·rw[tR.d];exact u al0
    ·rw[tR.d];exact CD
    ·rw[tR.d];refine u ⟨_,al1,t2,?_⟩;rw[t1,Ly,alY.d]
  ·have eZ:j=xs.length:=r;subst eZ;have cL:(xs.length:Int)<=(xs.length:Int):=r;have OJ:fe.take xs.length=fe:=by rw[fk.d,List.take_length]
   rw[OJ] at dl Aq vx;have CE:=WA fe st;have bj:Hid (wr.ownsRow w.heap.size 112 3 (.slice (some ⟨w.heap.size,0,none⟩) xs.length xs.length) (kS fe st).1.length (fc (kS fe st).1)):=u (by
    obtain⟨ay,aI,aZ,a6⟩:=vx.d;rw[CE,<-fk.d];refine⟨?_,.inr ⟨_,_,ay,rfl,ap,aI,ap,wG,aZ,a6⟩⟩;have vm:ay.toList.length=xs.length*3:=by rw[<-aZ];rfl
    rw[<-a6,List.length_take,vm,Nat.min_self])
   clear vx CE ae;go_wp2_with fail;go_ret;exact⟨_,rfl,bj.d,dl.d,sU.d,Aq.d⟩
