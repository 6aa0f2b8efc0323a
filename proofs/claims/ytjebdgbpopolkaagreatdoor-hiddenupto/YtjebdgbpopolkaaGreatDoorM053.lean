import Derived.Test.YtjebdgbpopolkaaGreatDoorM052
import Derived.Test.YtjebdgbpopolkaaGreatDoorM041
set_option maxHeartbeats 0
set_option maxRecDepth 100000
set_option linter.all false
namespace Go.Proofs.YtjebdgbpopolkaaGreatDoor
open Tryz
open Go.RowKit Go.Sort Go.Shelf
open bS
variable{F:Nat->Prop}{W w w':World}{N b cN bL c n C:Nat}{s s1 s2 bp:ni}{td:List eb}{t:aL}{eH:e6}{ts:e4}{p:n9}{iy:bG}{g:hG}{out:List l7}
def vE.later(A:Below w.heap.size w W)(h:vE F W b s w'):vE F w b s w':=by obtain⟨F',aI,aZ,a6⟩:=h;exact⟨F',aI,fun k hk=>(aZ k hk).imp id (fun h=>bX A.size h),(da.of A).andThen a6⟩
def nH.below(h:nH F w b s)(A:Below w.heap.size w w'):nH F w' b s:=h.aside (G:=fun _=>False) ⟨A.os,A.tape,A.output,A.size,fun k hk _=>A.block k hk⟩ (fun _ _=>id)
def dK.aaX{I:List dC}{lo hi:Nat}{vs:List Value}(h:dK td w t I lo hi vs)(av:ki w w'):dK td w' t I lo hi vs:=h.a8 (fun k cs m e _ _=>av.other k cs _ m e (by unfold oM;decide)) (fun k cs m ne au e=>av.other k cs _ m e (by unfold oM;rcases au with rfl | rfl | rfl<;>decide))
def apB(F:Nat->Prop)(w:World)(b:Nat)(s:ni)(eH:e6)(e:Ending)(w':World):Prop:=(A1 (pq (uO s.ce s.ck.bY)) eH≠0/\e=.returned (.tuple #[q 0,q (A1 (pq (uO s.ce s.ck.bY)) eH:Int)])/\vE F w b s w')\/(A1 (pq (uO s.ce s.ck.bY)) eH=0/\6<=s.nj.length/\e=.returned (.tuple #[q 0,q 7])/\vE F w b s w')\/(A1 (pq (uO s.ce s.ck.bY)) eH=0/\s.nj.length<6/\e=.returned (.tuple #[q ((s.last+1:Nat):Int),q 0])/\∃ts t x lo hi td,hC eH=some (ts,t)/\w.heap.size<=lo/\oJ td (uO s.ce s.ck.bY)/\dK td w' t [] lo hi [M x]/\vE F w b {s with nj:=s.nj++[⟨s.last+1,s.ce.count,gq ts,mM ts,x⟩],last:=s.last+1} w')
def avj(h:nH F w b s)(ok:hA N s.ck)(dh:Ground w)(X:s.nj.length<=100)(wx:s.last<=1000000)(eH:e6):ey 10 #[M b,.string eH] w (apB F w b s eH):=by
 have b5:=dh.uJ.js;obtain⟨aw,c,b6,bt,pa,cj,lc,aX,bD,pn,pc,h1,H,ab,aK⟩:=id h;obtain⟨aE,rh,aoD,lX⟩:=h1.bd ok;obtain⟨aC,c6,bA,rfl⟩:∃aC c6 bA,aE=.slice aC c6 bA:=by obtain⟨bs,_,C,_⟩:=lX;obtain⟨a,c,e⟩:=cG C.1;exact⟨a,_,c,e⟩
 obtain rfl:pn=s.nj.length:=by obtain⟨nB,e7,e⟩:=aK.shape;injection e
 have bc:=jq rh;have aqd:=u (auR (F:=fun k=>k<w.heap.size) eH s.ce s.ck.bY b aC b6 bt pa c6 bA cj lc aX bD s.nj.length pc (s.last:Int) s.ck.dS w dh.uJ rh H.inside ab.inside lX.inside (by have:=ok.wA;omega) (fun t au=>(ok.B t au).gp));have apC:Hid (∀W,Below w.heap.size w W->nH F W b s):=u (fun W A=>h.below A);have yR:Hid (∀W,Below w.heap.size w W->(dp W b 1=some (.slice b6 cj lc)/\dp W b 2=some (.slice bt aX bD)/\dp W b 3=some (q (s.ce.count:Int))/\dp W b 4=some (.slice pa s.nj.length pc))):=u (fun W A=>by
  have k:=Below.a8 A rh;exact⟨Z k (i:=1) rfl,Z k (i:=2) rfl,Z k (i:=3) rfl,Z k (i:=4) rfl⟩)
 have aqe:Hid (∀k,F k->oN w k/\8<=k):=u aw;clear h1 H ab aK rh aoD lX;unfold aqZ at aqd;generalize atB:A1 (pq (uO s.ce s.ck.bY)) eH=apD at *;have apE:=u atB;clear atB;go_enter func10,ntmps10;go_upto_region 2 with(go_at_call 25;refine aqd.d.mono ?_;rintro e J ⟨bJ,f,sp,YB,rfl,aj⟩);have dF:Below J.heap.size J (J.alloc (.cells #[q f,q sp,.pointer YB] 75)):=cT;have fq:=bH J (.cells #[q f,q sp,.pointer YB] 75);have hK:=Below.fK bJ dF;have lm:=u aj;have qN:=u bJ;clear aj bJ aqd;generalize arD:J.alloc (.cells #[q f,q sp,.pointer YB] 75)=W at *;have JX:Hid (∀(td:List eb) (t:aL) (lo hi:Nat) (vs:List Value),dK td J t [] lo hi vs->dK td W t [] lo hi vs):=u (fun _ _ _ _ _ h=>h.below dF);have kO:=u hK;clear dF;generalize J.heap.size=aB at *
 have eo:Hid (∀aU,Below W.heap.size W aU->(dp aU aB 0=some (q f)/\dp aU aB 1=some (q sp)/\dp aU aB 2=some (.pointer YB))):=u (fun aU A=>by
  have k:=Below.a8 A fq;exact⟨Z k (i:=0) rfl,Z k (i:=1) rfl,Z k (i:=2) rfl⟩)
 by_cases Rc:apD=0
 ·by_cases aqk:6<=s.nj.length
  ·have aql:Hid (ey 26 #[.pointer (some ⟨b,4,none⟩)] W (ov W (.bool true))):=u (by
    have:=aqP b 4 s.nj.length pc pa W (yR.d W kO.d).2.2.2;rw[ax3 aqk] at this;exact this)
   have Oq:Hid (apB F w b s eH (.returned (.tuple #[q 0,q 7])) W):=u (.inr (.inl ⟨apE.d.trans Rc,aqk,rfl,vE.same (by first | exact h) kO.d⟩));subst Rc;clear h ok dh fq hK lm qN apC yR aqe JX eo;go_wp2_with (go_at_call 26;refine aql.d.mono ?_;rintro e S ⟨rfl,rfl⟩);go_ret2;exact Oq.d
  ·have aql:Hid (ey 26 #[.pointer (some ⟨b,4,none⟩)] W (ov W (.bool false))):=u (by
    have:=aqP b 4 s.nj.length pc pa W (yR.d W kO.d).2.2.2;rw[ax2 aqk] at this;exact this)
   obtain⟨ts,t,x,lo,hi,td,q1,bN,fR,iK,j4,km,SI,atC⟩:=lm.d Rc;subst fR iK km;have vz:Below W.heap.size W W.drew:=⟨rfl,rfl,rfl,ap,fun _ _=>rfl⟩;have lg:Hid (ey 21 #[.agg #[.slice b6 cj lc,.slice bt aX bD,q (s.ce.count:Int)]] W.drew fun e aA=>e=.returned (q (s.ce.count:Int))/\(dp aA b 1=some (.slice b6 cj lc)/\dp aA b 2=some (.slice bt aX bD)/\dp aA b 3=some (q (s.ce.count:Int))/\dp aA aB 0=some (q (gq ts:Int))/\dp aA aB 1=some (q (mM ts))/\dp aA aB 2=some (M x))/\Hid (Below W.heap.size W aA)):=u ((ank b6 bt cj lc aX bD (s.ce.count:Int) W.drew).mono (by
    rintro e aA ⟨rfl,cg⟩;have lM:=Below.fK vz cg;obtain⟨bq,a2,a3⟩:=eo.d aA lM;obtain⟨Y,am,bm,_⟩:=yR.d aA (Below.fK kO.d lM);exact⟨rfl,⟨Y,am,bm,bq,a2,a3⟩,u lM⟩))
   have apF:Hid (∀aA,Below W.heap.size W aA->ey 27 #[.pointer (some ⟨b,4,none⟩),.agg #[q (gq ts:Int),q (mM ts),M x],q (s.ce.count:Int)] aA fun e bI=>e=.returned (q ((s.last+1:Nat):Int))/\(dp bI b 1=some (.slice b6 cj lc)/\dp bI b 2=some (.slice bt aX bD)/\dp bI b 3=some (q (s.ce.count:Int))/\dp bI aB 0=some (q (gq ts:Int))/\dp bI aB 1=some (q (mM ts))/\dp bI aB 2=some (M x))/\Hid (apB F w b s eH (.returned (.tuple #[q ((s.last+1:Nat):Int),q 0])) bI)):=u (fun aA cg=>by
    have Hs:=Below.fK kO.d cg;have aAI:=apC.d aA Hs;refine(auI aAI (bX b5 Hs.size) X wx s.ce.count (gq ts) (mM ts) x).mono ?_;rintro e bI ⟨rfl,⟨s1,s2,dd⟩,bi⟩;have av:ki aA bI:=by obtain⟨_,_,_,a6⟩:=bi;exact ki.of a6 aAI.1
    have hk:=Below.a8 cg fq;have rm:=av.other _ _ _ _ hk (by unfold oM;decide);have apG:=((JX.d _ _ _ _ _ atC).below cg).aaX av;obtain⟨Y,am,bm,_⟩:=yR.d aA Hs;exact⟨rfl,⟨s1.trans Y,s2.trans am,dd.trans bm,Z rm (i:=0) rfl,Z rm (i:=1) rfl,Z rm (i:=2) rfl⟩,u (.inr (.inr ⟨apE.d.trans Rc,r,rfl,ts,t,x,lo,hi,td,q1,j4,SI,apG,vE.later Hs bi⟩))⟩)
   obtain⟨cN,bL,fS,jg⟩:=yR.d W kO.d;obtain⟨bq,a2,a3⟩:=eo.d W (Below.refl _ _);subst Rc;clear h ok dh fq hK lm qN apC aqe JX yR eo q1 bN j4 SI atC vz;go_upto_region 6 with(go_at_call 26;refine aql.d.mono ?_;rintro e S ⟨rfl,rfl⟩);go_region_held3 (fun w'=>w'.cell? ⟨b,1,none⟩=some (.slice b6 cj lc)/\w'.cell? ⟨b,2,none⟩=some (.slice bt aX bD)/\w'.cell? ⟨b,3,none⟩=some (q (s.ce.count:Int))/\w'.cell? ⟨aB,0,none⟩=some (q (gq ts:Int))/\w'.cell? ⟨aB,1,none⟩=some (q (mM ts))/\w'.cell? ⟨aB,2,none⟩=some (M x)) (go_keep) (first | (go_at_call 27;refine(apF.d aA JU.d).mono ?_;rintro e bI ⟨rfl,⟨d4,d5,d6,d0,d1,d2⟩,JT⟩) | (go_at_call 21;refine lg.d.mono ?_;rintro e aA ⟨rfl,⟨gp,fO,jy,bk,c1,c2⟩,JU⟩));all_goals
    go_wp2_with fail;go_ret2;exact JT.d
 ·have Oq:Hid (apB F w b s eH (.returned (.tuple #[q 0,q (apD:Int)])) W):=u (.inl ⟨by rw[apE.d];exact Rc,by rw[apE.d],vE.same h kO.d⟩);have aes:((apD:Int)==0)=false:=by rw[cV];omega
  have cy:¬(apD:Int)=0:=r;obtain⟨bq,a2,a3⟩:=eo.d W (Below.refl _ _);clear h ok dh fq hK lm qN apC yR aqe JX eo;go_wp2_with fail;go_ret2;exact Oq.d
def fB.len{a:Option Addr}{l:je}(h:fB F w (.slice a n c) l):n=l.length:=by obtain⟨rs,h1,H⟩:=h;obtain⟨nB,e7,e⟩:=cG h1.1;injection e
def avm(ae:A1 td eH=0)(ag:hC eH=some (ts,t)):aJ t 2/\mr t/\3*nq t<=900/\0<=mM ts:=by
 obtain⟨ko,mW⟩:=Xn (aoC ag) (Pq ag);have ut:0<=mM ts/\pj td t=0:=by
  unfold A1 at ae;split at ae
  ·rename_i h;exact absurd ae h
  ·rw[ag] at ae;simp only[] at ae;split at ae
   ·cases ae
   ·rename_i h;exact⟨r,ae⟩
 have ou:eh td [] t=true/\h6 t=false:=by
  have ut:=ut.2;unfold pj at ut;split at ut
  ·rename_i h;refine⟨h,?_⟩;split at ut
   ·cases ut
   ·rename_i H;simpa using H
  ·cases ut
 exact⟨ko,yO t 2 [] ko ou.1 ou.2,by have lq:2*nq t<=400:=mW;omega,ut.1⟩
def Il(bd:List bG)(p:n9)(t:aL)(W:World):Prop:=(∃lo hi td j,oJ td (uO j bd)/\dK td W t [] lo hi [M p.x])/\aJ t 2/\mr t/\3*nq t<=900/\-1000000000000<=p.span/\p.span<=1000000000000
def Il.below{bd:List bG}{p:n9}{t:aL}{W aU:World}(h:Il bd p t W)(A:Below W.heap.size W aU):Il bd p t aU:=by obtain⟨⟨lo,hi,td,j,h1,H⟩,ab⟩:=h;exact⟨⟨lo,hi,td,j,h1,H.below A⟩,ab⟩
def Il.aaX{bd:List bG}{p:n9}{t:aL}{W aU:World}(h:Il bd p t W)(A:ki W aU):Il bd p t aU:=by obtain⟨⟨lo,hi,td,j,h1,H⟩,ab⟩:=h;exact⟨⟨lo,hi,td,j,h1,H.aaX A⟩,ab⟩
def Il.B{bd aq6:List bG}(h:Il bd p t W)(he:aq6.map (fun t=>(t.name,t.bl))=bd.map (fun t=>(t.name,t.bl))):Il aq6 p t W:=by obtain⟨⟨lo,hi,td,j,h1,H⟩,ab⟩:=h;refine⟨⟨lo,hi,td,j,?_,H⟩,ab⟩;unfold oJ uO at h1 ⊢;rw[h1,List.map_append,List.map_append,he]
def PH(T:n9->aL)(g:hG)(j:qh)(p:n9):Bool:=Uq (A0 p.since p.form p.span g.dS j g.bY) g.dS (T p)
def avn(h1:nH F W b s)(aK:Ground W)(ok:hA N s.ck)(fit:lw s.ck)(cS:N<=1000000000)(lX:s.ck.bY=[iy])(aS:JW s.ce)(aj:s.nj.length<=100)(T:n9->aL)(bi:∀p∈s.nj,Il s.ck.bY p (T p) W)(cU eH:e6)(hu:cU.size<=1000000):ey 7 #[M b,.string cU,.string eH] W (JA F W b (gE (PH T s.ck) s cU eH)):=by
 have f1:=aS.vc;have f2:=aS.log;have f3:=aS.Py;have bM : -1000000000000<=s.ck.dS:=by have:=ok.zN;omega
 refine XV (PH T s.ck) h1 ok fit aK cU eH hu r r r r (fun p AK aU b6 bt hM cj lc aX bD CM nd uf A oE kv bw avo=>?_);obtain⟨⟨lo,hi,td,atH,q1,bN⟩,fR,iK,j4,km,SI⟩:=bi p AK;have apc:=apA lX ok fit cS aS avo;have g1:=apc.vc;have g2:=apc.log;have g3:=apc.Py;exact auu (F:=fun k=>k<aU.heap.size) (td:=td) (bd:=s.ck.bY) (t:=T p) (lo:=lo) (hi:=hi) p.num p.since p.form p.span s.ck.dS p.x b6 bt hM cj lc aX bD CM nd uf aU oE kv (fun C ag=>(apc.cX C ag).1) r r km SI (by rw[lX];show 1<=900;omega) bw (fun h5 v ah nN=>⟨fun k=>k<h5.heap.size,auw (fit.B ok) apc _ _ _ _,q1,bM,ok.ya,fR,iK,j4,((aK.below A).below ah).vC.lt,((aK.below A).below ah).vC,(bN.below A).below ah,nN.inside,fun k hk=>hk⟩) bM ok.ya
def az5(h1:nH F W b s)(aK:Ground W)(ok:hA N s.ck)(X:s.nj.length<6)(wx:s.last<=1000000)(eH:e6)(aj:A1 (pq (uO s.ce s.ck.bY)) eH=0):ey 10 #[M b,.string eH] W fun e aU=>e=.returned (.tuple #[q ((s.last+1:Nat):Int),q 0])/\∃ts t x,hC eH=some (ts,t)/\(mM ts<=1000000000000->Il s.ck.bY ⟨s.last+1,s.ce.count,gq ts,mM ts,x⟩ t aU)/\vE F W b {s with nj:=s.nj++[⟨s.last+1,s.ce.count,gq ts,mM ts,x⟩],last:=s.last+1} aU:=by
 refine(avj h1 ok aK r wx eH).mono ?_;rintro e aU (⟨cy,-⟩ | ⟨-,cE,-⟩ | ⟨-,-,rfl,ts,t,x,lo,hi,td,q1,bN,fR,iK,j4⟩)
 ·exact absurd aj cy
 ·omega
 ·obtain⟨p1,p2,fw,pf⟩:=avm aj q1;exact⟨rfl,ts,t,x,q1,fun hs=>⟨⟨lo,hi,td,s.ce,fR,iK⟩,p1,p2,fw,by show(-1000000000000:Int)<=mM ts;omega,hs⟩,j4⟩
def atI(bd:List bG):oJ (pq bd) bd:=by unfold oJ pq;rw[List.map_map];rfl
def av8:UO []:=⟨bu,fun C ag=>absurd ag (ax4),fun C ag=>absurd ag (ax4)⟩
def avr(s:e6)(fe:List Nat):kq s fe<=2:=by
 unfold kq;split
 ·decide
 ·split
  ·split<;>decide
  ·decide
def avs(td:List eb)(s:e6):hN td s<=5:=by
 unfold hN;split
 ·exact bX (avr s [0]) K
 ·split
  ·decide
  ·unfold pj;split
   ·split
    ·decide
    ·split<;>decide
   ·decide
structure gQ (w:World) (cN:Nat) (s1:ni) (bL:Nat) (s2:ni) (W:World):Prop where
 own:∃UM UN,nH UM W cN s1/\nH UN W bL s2/\(∀k,UM k->¬UN k)/\(∀k,UM k->w.heap.size<=k)/\∀k,UN k->w.heap.size<=k
 ho:eB w W
 xo:Ground W
def gQ.of{J S:World}(h1:gF w cN s1 J)(H:gF J bL s2 S):gQ w cN s1 bL s2 S:=by obtain⟨⟨UM,bq,a2⟩,a3,a4⟩:=h1;obtain⟨⟨UN,c1,c2⟩,dZ,gp⟩:=H;refine⟨⟨UM,UN,bq.aside (G:=fun _=>False) ⟨dZ.os,dZ.tape,dZ.output,dZ.size,fun k hk _=>dZ.block k hk⟩ (fun _ _=>id),c1,fun k x y=>?_,a2,fun k hk=>bX a3.size (c2 k hk)⟩,Below.fK a3 dZ,gp⟩;have:=bq.fH k x;have:=c2 k y;omega
def gQ.swap(h:gQ w cN s1 bL s2 W):gQ w bL s2 cN s1 W:=by obtain⟨⟨UM,UN,bq,a2,a3,a4,a5⟩,kG,jv⟩:=h;exact⟨⟨UN,UM,a2,bq,fun k x y=>a3 k y x,a5,a4⟩,kG,jv⟩
def gQ.below{w W aU:World}{cN bL:Nat}{s1 s2:ni}(h:gQ w cN s1 bL s2 W)(A:eB W aU):gQ w cN s1 bL s2 aU:=by obtain⟨⟨UM,UN,bq,a2,a3,a4,a5⟩,kG,jv⟩:=h;have st:da (fun _=>False) W aU:=⟨A.os,A.tape,A.output,A.size,fun k hk _=>A.block k hk⟩;exact⟨⟨UM,UN,bq.aside st (fun _ _=>id),a2.aside st (fun _ _=>id),a3,a4,a5⟩,Below.fK kG A,jv.below A⟩
def CY.below{v:Value}{l:List (Int×Int)}(h:CY w v l)(A:eB w w'):CY w' v l:=by
 obtain⟨⟨a,af,e,h1⟩,H,ab⟩:=h;refine⟨⟨a,af,e,?_⟩,H,ab⟩;rcases h1 with h1 | ⟨g,off,Y,R,ai⟩
 ·exact .inl h1
 ·exact .inr ⟨g,off,Y,e0 R A.size,fun i hi=>⟨(A.cell (p:=⟨g,off+i*2,none⟩) R).trans (ai i hi).1,(A.cell (p:=⟨g,off+i*2+1,none⟩) R).trans (ai i hi).2⟩⟩
def gQ.call{aU:World}{fu:ni}{G:Nat->Prop}(h1:∀k,F k->oN W k/\8<=k)(H:nH G W c bp)(ab:∀k,F k->w.heap.size<=k)(aK:∀k,G k->w.heap.size<=k)(cO:∀k,F k->¬G k)(A:eB w W)(R:Ground W)(bi:vE F W b fu aU):gQ w b fu c bp aU/\ki W aU:=by
 obtain⟨F',aI,aZ,a6⟩:=bi;refine⟨⟨⟨F',G,aI,H.aside a6 (fun k hk av=>cO k av hk),fun U ae R=>?_,fun U ae=>?_,aK⟩,⟨a6.os.trans A.os,a6.tape.trans A.tape,a6.output.trans A.output,bX A.size a6.size,fun U ae=>?_⟩,R.anx a6 (fun U ae=>(h1 U ae).2)⟩,ki.of a6 h1⟩
 ·rcases aZ U ae with h | h
  ·exact cO U h R
  ·have:=H.fH U R;omega
 ·rcases aZ U ae with h | h
  ·exact ab U h
  ·exact bX A.size h
 ·exact(a6.block U (e0 ae A.size) (fun x=>by have:=ab U x;omega)).trans (A.block U ae)
def acn(h:gQ w b s c bp W)(ok:hA N s.ck)(fit:lw s.ck)(cS:N<=1000000000)(lX:s.ck.bY=[iy])(aS:JW s.ce)(aj:s.nj.length<=100)(T:n9->aL)(bi:∀p∈s.nj,Il s.ck.bY p (T p) W)(cU eH:e6)(hu:cU.size<=1000000):ey 7 #[M b,.string cU,.string eH] W fun e aU=>∃a n k,e=.returned (.tuple #[.agg #[.slice a n k,q ((gE (PH T s.ck) s cU eH).Jt:Int)],q ((gE (PH T s.ck) s cU eH).qk:Int)])/\Hid (fW 0 aU (.slice a n k) (gE (PH T s.ck) s cU eH).out/\gQ w b (gE (PH T s.ck) s cU eH).FX c bp aU/\ki W aU):=by
 obtain⟨⟨F,G,h1,H,cO,ab,aK⟩,cE,kD⟩:=h;refine(avn h1 kD ok fit cS lX aS aj T bi cU eH hu).mono ?_;rintro e aU ⟨a,n,k,rfl,ct,bi⟩;exact⟨a,n,k,rfl,u ⟨ct,gQ.call h1.1 H ab aK cO cE kD bi⟩⟩
def az6(h:gQ w b s c bp W)(ok:hA N s.ck)(X:s.nj.length<6)(wx:s.last<=1000000)(eH:e6)(aj:A1 (pq (uO s.ce s.ck.bY)) eH=0):ey 10 #[M b,.string eH] W fun e aU=>e=.returned (.tuple #[q ((s.last+1:Nat):Int),q 0])/\Hid (∃ts t x,hC eH=some (ts,t)/\(mM ts<=1000000000000->Il s.ck.bY ⟨s.last+1,s.ce.count,gq ts,mM ts,x⟩ t aU)/\gQ w b {s with nj:=s.nj++[⟨s.last+1,s.ce.count,gq ts,mM ts,x⟩],last:=s.last+1} c bp aU/\ki W aU):=by obtain⟨⟨F,G,h1,H,cO,ab,aK⟩,cE,kD⟩:=h;refine(az5 h1 kD ok X wx eH aj).mono ?_;rintro e aU ⟨rfl,ts,t,x,q1,bN,fR⟩;obtain⟨aI,aZ⟩:=gQ.call h1.1 H ab aK cO cE kD fR;exact⟨rfl,u ⟨ts,t,x,q1,bN,aI,aZ⟩⟩
def aq5(C:Nat):e6:=a7 ([101,118,101,114,32,115,101,108,101,99,116,32,122,46,105,100,32,102,114,111,109,32,116,111,117,99,104,32,122,32,119,104,101,114,101,32,40,122,46,116,97,98,32,61,32,39,116,39,32,97,110,100,32,122,46,114,111,119,32,61,32]++(im (C:Int)).data.toList++[41])
def PM:e6:=⟨#[122]⟩
def YD:e6:=⟨#[116,111,117,99,104]⟩
def awR:List (e6×Nat):=[(⟨#[105,100]⟩,1),(⟨#[116,97,98]⟩,2),(⟨#[114,111,119]⟩,1)]
def awS:aL:=.cons (.node 1 PM ⟨#[105,100]⟩ al.zero .nil .nil) .nil
def ayr:aL:=.node 16 ⟨#[]⟩ ⟨#[]⟩ al.zero (.cons (.node 1 PM ⟨#[116,97,98]⟩ al.zero .nil .nil) (.cons (.node 2 ⟨#[]⟩ ⟨#[]⟩ ⟨2,0,[116]⟩ .nil .nil) .nil)) .nil
def ays(C:Nat):aL:=.node 16 ⟨#[]⟩ ⟨#[]⟩ al.zero (.cons (.node 1 PM ⟨#[114,111,119]⟩ al.zero .nil .nil) (.cons (.node 2 ⟨#[]⟩ ⟨#[]⟩ ⟨1,(C:Int),[]⟩ .nil .nil) .nil)) .nil
def avc(C:Nat):aL:=.node 12 ⟨#[]⟩ ⟨#[]⟩ al.zero (.cons ayr (.cons (ays C) .nil)) .nil
def UP(C:Nat):aL:=.query awS [(YD,PM)] (avc C) .nil .nil
def az7(C:Nat)(H:2<=C)(ag:C<14):(hC (aq5 C)).map (fun x=>(x.2,gq x.1,mM x.1))=some (UP C,2,0):=by rcases(by omega:C=2\/C=3\/C=4\/C=5\/C=6\/C=7\/C=8\/C=9\/C=10\/C=11\/C=12\/C=13) with rfl | rfl | rfl | rfl | rfl | rfl | rfl | rfl | rfl | rfl | rfl | rfl<;>kernel_rfl
def az8(l1 bT cm:je)(c m C:Nat)(H:2<=C)(ag:C<14):A1 (pq (uO ⟨l1,bT,c⟩ [⟨fL,mA,cm,m⟩])) (aq5 C)=0:=by rcases(by omega:C=2\/C=3\/C=4\/C=5\/C=6\/C=7\/C=8\/C=9\/C=10\/C=11\/C=12\/C=13) with rfl | rfl | rfl | rfl | rfl | rfl | rfl | rfl | rfl | rfl | rfl | rfl<;>kernel_rfl
def az9(H:2<=C)(ag:C<14)(h:hC (aq5 C)=some (ts,t)):t=UP C/\gq ts=2/\mM ts=0:=by have h1:=az7 C H ag;rw[h] at h1;have H:=bx h1;exact⟨congrArg Prod.fst H,congrArg (fun x=>x.2.1) H,congrArg (fun x=>x.2.2) H⟩
def ayt(L ox:je)(bd:List bG):gC ([Al L,Am ox]++bd) (YD,PM)=ox:=by
 have:fD ([Al L,Am ox]++bd) YD=some 1:=by unfold fD;rw[List.cons_append,List.findIdx?_cons,if_neg (show ¬((Al L).name==YD)=true from(by decide:¬((⟨#[108,111,103]⟩:e6)==YD)=true)),List.cons_append,List.findIdx?_cons];rfl
 unfold gC;rw[show(YD,PM).1=YD from rfl,this];rfl
def ayu(L ox:je)(bd:List bG):ea ([Al L,Am ox]++bd) [(YD,PM)]=[⟨PM,awR⟩]:=by
 have:fD ([Al L,Am ox]++bd) YD=some 1:=by unfold fD;rw[List.cons_append,List.findIdx?_cons,if_neg (show ¬((Al L).name==YD)=true from(by decide:¬((⟨#[108,111,103]⟩:e6)==YD)=true)),List.cons_append,List.findIdx?_cons];rfl
 unfold ea zQ;rw[List.map_singleton,show(YD,PM).1=YD from rfl,this];rfl
def akf(C:Nat)(x:Nat×List al):Bool:=decide (min (pP 16 (x.2.getD 1 al.zero) ⟨2,0,[116]⟩) (pP 16 (x.2.getD 2 al.zero) ⟨1,(C:Int),[]⟩)=2)
def aAa(L ox:je)(bd:List bG)(O:Int)(C:Nat)(X:ox.length<=20000):Uq ([Al L,Am ox]++bd) O (UP C)=ox.any (akf C):=by
 have pG:L0 [⟨PM,awR⟩] PM ⟨#[105,100]⟩=some (0,0,1):=ax;have go:L0 [⟨PM,awR⟩] PM ⟨#[116,97,98]⟩=some (0,1,2):=ax;have Vn:L0 [⟨PM,awR⟩] PM ⟨#[114,111,119]⟩=some (0,2,1):=ax;have hk:∀st,iZ (bR ([Al L,Am ox]++bd) O (avc C) (ea ([Al L,Am ox]++bd) [(YD,PM)])) (avc C) st=((fun l=>akf C (l.getD 0 (0,[]))) st.ad,st):=fun st=>by rw[ayu];simp only[iZ,avc,ayr,ays,isNone,bR,ca];simp only[Nat.reduceEqDiff,if_false,if_true,Bool.false_eq_true,BP,go,Vn];rfl
 have hv:∀st,hL (ea ([Al L,Am ox]++bd) [(YD,PM)]) O awS st=((fun l=>[((l.getD 0 (0,[])).2).getD 0 al.zero]) st.ad,st):=fun st=>by rw[ayu];simp only[awS,hL,ca,if_true,BP,pG]
 have h:=H9 (B:=[Al L,Am ox]++bd) (O:=O) (e:=awS) (wh:=avc C) (s:=(YD,PM)) rfl (fun l=>akf C (l.getD 0 (0,[]))) hk (fun l=>[((l.getD 0 (0,[])).2).getD 0 al.zero]) hv (by rw[ayt];exact X);rw[ayt] at h;unfold Uq UP;rw[h.1,h.2,Bool.or_false];have:∀l:je,(!((l.filter fun x=>akf C ([x].getD 0 (0,[]))).map fun x=>([((([x].getD 0 (0,[])).2).getD 0 al.zero)],[[x]])).isEmpty)=l.any (akf C):=by
  intro l;induction l with
  | nil=>rfl
  | cons a U aH=>
   rw[List.filter_cons,List.any_cons];by_cases ak:akf C a=true
   ·have:akf C ([a].getD 0 (0,[]))=true:=ak;rw[if_pos this,ak];rfl
   ·have:¬akf C ([a].getD 0 (0,[]))=true:=ak;rw[if_neg this,aH];simp[ak]
 exact this ox
def ayv(C k:Nat)(a:al)(m:Int):akf C (k,[a,CN fL,iX m])=decide (m=(C:Int)):=by
 show decide (min (pP 16 (CN fL) ⟨2,0,[116]⟩) (pP 16 (iX m) ⟨1,(C:Int),[]⟩)=2)=_;have Y:pP 16 (CN fL) ⟨2,0,[116]⟩=2:=K;have am:pP 16 (iX m) ⟨1,(C:Int),[]⟩=rC (decide (m=(C:Int))):=by
  unfold pP;rw[if_neg (by rintro(h | h)<;>cases h),if_pos rfl];have ai:jo (iX m) ⟨1,(C:Int),[]⟩=pO m (C:Int):=ayZ _ _;rw[ai];unfold pO;congr 1;by_cases h1:m<(C:Int)
  ·rw[if_pos h1];simp;omega
  ·rw[if_neg h1];by_cases H:m > (C:Int)
   ·rw[if_pos H];simp;omega
   ·rw[if_neg H];simp;omega
 rw[Y,am];by_cases h:m=(C:Int)
 ·simp[h,rC]
 ·simp only[h,rC,decide_false];decide
def YG(g:hG)(c:Nat)(eH:e6):Sum Nat (List l7):=if hN (pq g.bY) eH≠0 then .inl (hN (pq g.bY) eH) else match hC eH with
 | none=>.inl 1
 | some x=>match oK g.bY g.dS (eM x.2) x.2 with
  | none=>.inl 6
  | some out=>if 60<=c then .inl 7 else .inr out
def atN(ae:hN td eH=0):∃x,hC eH=some x:=by
 cases aa:hC eH with
 | none=>
  have:kq eH [0]=1:=by unfold kq;rw[aa]
  unfold hN at ae;rw[if_pos (by rw[this];decide),this] at ae;cases ae
 | some x=>exact⟨x,rfl⟩
def apf(f:qh->n9->Bool)(s:ni){cU:e6}(hu:¬(cU.data.toList=[]\/jf cU.data.toList=false))(eH:e6):(∃oC,oC≠0/\oC<=7/\YG s.ck s.ce.count eH=.inl oC/\gE f s cU eH=⟨oC,0,[],s⟩)\/(∃out,YG s.ck s.ce.count eH=.inr out/\apq s cU eH (nh cU s.ck.dS (hj (out.map (·.2))) s.ce)/\gE f s cU eH=if oa (f (nh cU s.ck.dS (hj (out.map (·.2))) s.ce)) s.nj≠0 then ⟨10,oa (f (nh cU s.ck.dS (hj (out.map (·.2))) s.ce)) s.nj,[],s⟩ else ⟨0,0,out,{s with ce:=nh cU s.ck.dS (hj (out.map (·.2))) s.ce}⟩):=by
 unfold gE YG;rw[if_neg hu];by_cases ae:hN (pq s.ck.bY) eH≠0
 ·rw[if_pos ae,if_pos ae];exact .inl ⟨_,ae,bX (avs _ _) K,rfl,rfl⟩
 ·rw[if_neg ae,if_neg ae];have zb:hN (pq s.ck.bY) eH=0:=by simpa using ae
  obtain⟨x,aa⟩:=atN zb;rw[aa];simp only[];cases ak:oK s.ck.bY s.ck.dS (eM x.2) x.2 with
  | none=>exact .inl ⟨6,K,K,rfl,rfl⟩
  | some out=>
   simp only[];by_cases ai:60<=s.ce.count
   ·rw[if_pos ai,if_pos ai];exact .inl ⟨7,K,K,rfl,rfl⟩
   ·rw[if_neg ai,if_neg ai];have hw:jf cU.data.toList=true:=by
     cases aa:jf cU.data.toList with
     | true=>rfl
     | false=>exact absurd (.inr aa) hu
    exact .inr ⟨out,rfl,⟨pq s.ck.bY,x.1,x.2,out,atI _,zb,aa,ak,r,hw,rfl⟩,rfl⟩
def awr(ok:hA N g)(fit:lw g)(cS:N<=1000000000)(h:YG g c eH=.inr out):UO out:=by
 unfold YG at h;split at h
 ·cases h
 ·rename_i ae;have zb:hN (pq g.bY) eH=0:=by simpa using ae
  obtain⟨x,aa⟩:=atN zb;rw[aa] at h;simp only[] at h;cases ak:oK g.bY g.dS (eM x.2) x.2 with
  | none=>rw[ak] at h;cases h
  | some o=>
   rw[ak] at h;simp only[] at h;split at h
   ·cases h
   ·injection h with h;subst h;exact avy ok fit cS (atI _) zb (ts:=x.1) (t:=x.2) aa ak
def ayw(e:Int):∀(aB L:je),(∀C∈aB,¬e<(C.1:Int))->(∀C∈L,e<(C.1:Int))->q0 e (aB++L)=L
 | [],[],_,_=>rfl
 | [],a::C,_,fa=>by unfold q0;rw[List.nil_append,List.findIdx?_cons,if_pos (ax3 (fa a (ax6 ..)))];rfl
 | a::aB,L,cr,fa=>by
  have aH:=ayw e aB L (fun C ag=>cr C (List.mem_cons_of_mem _ ag)) fa;unfold q0 at aH ⊢;rw[List.cons_append,List.findIdx?_cons,if_neg (by simpa using cr a (ax6 ..))];cases av:(aB++L).findIdx? (fun C=>decide (e<(C.1:Int))) with
  | none=>rw[av] at aH;exact aH
  | some i=>rw[av] at aH;exact aH
def atP:JW AT.ce:=by
 have aw:JW ⟨[],[],0⟩:=⟨K,K,K,fun C ag=>absurd ag (ax4),fun C ag=>absurd ag (ax4)⟩;have h1:=aw.with (cU:=hS) (time:=0) (ts:=[(fL,1)]) K K K K K (fun t au=>by
  obtain rfl:=ic au;exact⟨K,K,K⟩)
 exact h1.with (cU:=hS) (time:=0) (ts:=[]) K K K K K (fun t au=>absurd au (ax4))
def akg(C:Nat)(out:List l7):Bool:=out.any fun o=>o.2.any fun z=>decide (z.2=(C:Int))
def aAb(C:Nat)(au:∀o∈out,∀z∈o.2,z.1=fL)(c:Nat)(a:al):(((hj (out.map (·.2))).map fun t=>(c,[a,CN t.1,iX t.2])).any (akf C))=akg C out:=by
 have nT:∀z,z∈hj (out.map (·.2))↔∃o∈out,z∈o.2:=fun z=>by
  constructor
  ·intro h;obtain⟨l,X,aY⟩:=List.mem_flatten.1 ((apo _).2.1 z h);obtain⟨o,ct,rfl⟩:=List.mem_map.1 X;exact⟨o,ct,aY⟩
  ·rintro⟨o,ct,aY⟩;exact ay5 _ (List.mem_flatten.2 ⟨o.2,List.mem_map.2 ⟨o,ct,rfl⟩,aY⟩)
 rw[Bool.eq_iff_iff];unfold akg;simp only[List.any_eq_true,List.any_map,Function.comp];constructor
 ·rintro⟨z,aY,h⟩;obtain⟨o,ct,avd⟩:=(nT z).1 aY;rw[au o ct z avd,ayv] at h;exact⟨o,ct,z,avd,h⟩
 ·rintro⟨o,ct,z,avd,h⟩;refine⟨z,(nT z).2 ⟨o,ct,avd⟩,?_⟩;rw[au o ct z avd,ayv];exact h
def aAc(au:g.bY=[iy])(h:YG g c eH=.inr out):∀o∈out,∀z∈o.2,z.1=iy.name:=by
 unfold YG at h;split at h
 ·cases h
 ·rename_i ae;have zb:hN (pq g.bY) eH=0:=by simpa using ae
  obtain⟨x,aa⟩:=atN zb;rw[aa] at h;simp only[] at h;cases ak:oK g.bY g.dS (eM x.2) x.2 with
  | none=>rw[ak] at h;cases h
  | some o=>
   rw[ak] at h;simp only[] at h;split at h
   ·cases h
   ·injection h with h;subst h;have aqc:∀fu∈eM x.2,fu.1=iy.name:=by
     obtain⟨_,_,_,⟨e,wh,il,hv,r7⟩,_⟩:=PA zb (ts:=x.1) (t:=x.2) aa;have ut:eh (pq g.bY) [] x.2=true:=by
      unfold hN at zb;split at zb
      ·rename_i h;exact absurd zb h
      ·rw[aa] at zb;have axw:pj (pq g.bY) x.2=0:=zb;unfold pj at axw;split at axw
       ·rename_i h;exact h
       ·cases axw
     rw[r7,eh,Bool.and_eq_true] at ut;cases aa:hd (pq g.bY) [] (eM x.2) with
     | none=>rw[aa] at ut;exact absurd ut.2 (by simp)
     | some bU=>
      obtain⟨_,_,ab,_⟩:=Jc (atI g.bY) (eM x.2) [] bU aa;intro fu hs;obtain⟨i,hi⟩:=ab fu hs;obtain⟨X,ar⟩:=W5 hi;have tZ:∀x∈g.bY,x=iy:=by rw[au];intro x aa;exact ic aa
      rw[<-ar];exact congrArg bG.name (tZ _ (ec X))
    unfold oK at ak;split at ak
    ·cases ak
    obtain rfl:=bx ak;intro p aj z aY;obtain⟨a,avi,rfl⟩:=List.mem_map.1 aj;obtain⟨y,hy,rfl⟩:=List.mem_map.1 ((sS pg _).mem_iff.1 avi);have hm:=(apo [iO (eM x.2) y.2 (eM x.2).length]).2.1 z aY;rw[List.flatten_cons,List.flatten_nil,List.append_nil] at hm;unfold iO at hm;obtain⟨i,hi,hm⟩:=List.mem_flatMap.1 hm;have fM:=List.mem_range.1 hi;unfold hP at hm;obtain⟨c,_,rfl⟩:=List.mem_map.1 hm;show((eM x.2).getD i _).1=_;rw[List.getD_eq_getElem?_getD,fC fM];exact aqc _ (ec fM)
def aAd:∀C∈AT.ce.ng,¬(2:Int)<(C.1:Int):=by
 intro C ag;have X:AT.ce.ng=[(1,[iX 1,CN fL,iX 1])]:=by rfl
 rw[X] at ag;obtain rfl:=ic ag;show ¬(2:Int)<((1:Nat):Int);decide
def Cb(cD:List (Int×Int))(n:Nat)(p:n9):ni:=⟨uM cD n,AT.ce,[p],1⟩
def aAe{cD:List (Int×Int)}(ar:n<=12)(f:qh->n9->Bool)(h1:p.num=1)(H:p.since=2)(ab:p.form=2)(eH:e6):∃(PQ JN C2:Nat) (Nj vr:List l7) (s bp:ni),gE (PH (fun _=>UP C) (uM cD n)) (Cb cD n p) hS eH=⟨PQ,JN,Nj,s⟩/\gE f (mB cD n) hS eH=⟨C2,0,vr,bp⟩/\PQ<=10/\C2<=10/\UO Nj/\UO vr/\((C2=0/\akg C vr=true/\PQ=10/\JN=1/\Nj=[])\/((C2≠0\/akg C vr=false)/\PQ=C2/\JN=0/\Nj=vr)):=by
 obtain⟨ok,fit⟩:=PG cD n ar;have lX:(uM cD n).bY=[⟨fL,mA,AU cD n,n+1⟩]:=rfl;have Vl:¬(hS.data.toList=[]\/jf hS.data.toList=false):=K;rcases apf (PH (fun _=>UP C) (uM cD n)) (Cb cD n p) Vl eH with⟨oC,Y,am,bm,hq⟩ | ⟨out,jH,k2,rk⟩
 ·rcases apf f (mB cD n) Vl eH with⟨awu,c1,c2,dZ,gp⟩ | ⟨out,c1,_⟩
  ·have aq7:YG (Cb cD n p).ck (Cb cD n p).ce.count eH=.inl awu:=dZ;rw[bm] at aq7;injection aq7 with aq7;subst aq7;exact⟨oC,0,oC,[],[],_,_,hq,gp,r,r,av8,av8,.inr ⟨.inl Y,rfl,rfl,rfl⟩⟩
  ·have aq8:YG (Cb cD n p).ck (Cb cD n p).ce.count eH=.inr out:=c1;rw[bm] at aq8;cases aq8
 ·rcases apf f (mB cD n) Vl eH with⟨awu,c1,c2,dZ,gp⟩ | ⟨axi,c1,c2,dZ⟩
  ·have aq7:YG (Cb cD n p).ck (Cb cD n p).ce.count eH=.inl awu:=dZ;rw[jH] at aq7;cases aq7
  ·have aq8:YG (Cb cD n p).ck (Cb cD n p).ce.count eH=.inr axi:=c1;rw[jH] at aq8;injection aq8 with aq8;subst aq8;have ayx:=apA (s:=Cb cD n p) lX ok fit r atP k2;have nL:=awr (g:=uM cD n) ok fit r jH;have au:=aAc lX jH;have bq:=ayx.vc;have a2:=ayx.Py;have hF:PH (fun _=>UP C) (uM cD n) (nh hS (uM cD n).dS (hj (out.map (·.2))) AT.ce) p=akg C out:=by
    unfold PH A0 PU;rw[H,ab,if_pos rfl,show((2:Nat):Int)=2 from rfl];have A:q0 2 (nh hS (uM cD n).dS (hj (out.map (·.2))) AT.ce).ng=(hj (out.map (·.2))).map fun t=>(AT.ce.count+1,[iX ((AT.ce.count+1:Nat):Int),CN t.1,iX t.2]):=ayw 2 AT.ce.ng _ aAd (fun U ae=>by
     obtain⟨t,_,rfl⟩:=List.mem_map.1 ae;show(2:Int)<((AT.ce.count+1:Nat):Int);decide)
    rw[A];refine(aAa _ _ (uM cD n).bY (uM cD n).dS C ?_).trans (aAb C au _ _);have:(AT.ce.ng++(hj (out.map (·.2))).map fun t=>(AT.ce.count+1,[iX ((AT.ce.count+1:Nat):Int),CN t.1,iX t.2])).length<=150*(AT.ce.count+1):=a2;have ai:AT.ce.count=2:=rfl;rw[cu,ai] at this;rw[ai];omega
   have aAf:oa (f (nh hS (mB cD n).ck.dS (hj (out.map (·.2))) (mB cD n).ce)) (mB cD n).nj=0:=rfl;rw[aAf,if_neg K] at dZ;cases xI:akg C out with
   | true=>
    rw[xI] at hF;have axx:oa (PH (fun _=>UP C) (uM cD n) (nh hS (Cb cD n p).ck.dS (hj (out.map (·.2))) (Cb cD n p).ce)) (Cb cD n p).nj=1:=by show oa _ [p]=1;rw[oa];have:PH (fun _=>UP C) (uM cD n) (nh hS (Cb cD n p).ck.dS (hj (out.map (·.2))) (Cb cD n p).ce) p=true:=hF;rw[this,if_pos rfl,h1]
    rw[axx,if_pos K] at rk;exact⟨10,1,0,[],out,_,_,rk,dZ,r,r,av8,nL,.inl ⟨rfl,xI,rfl,rfl,rfl⟩⟩
   | false=>
    rw[xI] at hF;have axx:oa (PH (fun _=>UP C) (uM cD n) (nh hS (Cb cD n p).ck.dS (hj (out.map (·.2))) (Cb cD n p).ce)) (Cb cD n p).nj=0:=by show oa _ [p]=0;rw[oa];have:PH (fun _=>UP C) (uM cD n) (nh hS (Cb cD n p).ck.dS (hj (out.map (·.2))) (Cb cD n p).ce) p=false:=hF;rw[this];rfl
    rw[axx,if_neg K] at rk;exact⟨0,0,0,out,out,_,_,rk,dZ,r,r,nL,nL,.inr ⟨.inr xI,rfl,rfl,rfl⟩⟩
