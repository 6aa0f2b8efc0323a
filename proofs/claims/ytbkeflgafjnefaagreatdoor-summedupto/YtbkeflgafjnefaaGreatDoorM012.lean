import Derived.Test.YtbkeflgafjnefaaGreatDoorM008
set_option maxHeartbeats 20000000
set_option maxRecDepth 100000
set_option linter.all false
namespace Go.Proofs.YtbkeflgafjnefaaGreatDoor
open Tryz
open Go.RowKit
open bS
variable{W w:World}{v:Value}{b k:Nat}{l ts:List ByteArray}{c s:Option (List ByteArray)}{x:List ByteArray×aL}{cs:Array Value}
theorem cG{base n:Nat}{e:TypeId}{size:Nat}{xs:List Value}(h:w.ownsRow base e size v n xs):∃a af,v=.slice a n af:=by
 rcases h.2 with⟨rfl,rfl⟩ | ⟨g,af,ay,rfl,_⟩
 ·exact⟨_,_,rfl⟩
 ·exact⟨_,_,rfl⟩
theorem size_set(w:World)(a:Addr)(x:Value):(w.setCell a x).heap.size=w.heap.size:=by show(Array.modify _ _ _).size=_;rw[Array.size_modify]
theorem Rd.GQ(h:Rd w b v ts s):∀l,s=some l->l.length<=ts.length:=fun l X=>by subst X;exact h.len
theorem acK{α:Type}{o:Option (List ByteArray×α)}(h:o.map (·.1)=some l):∃x,o=some x/\x.1=l:=by obtain⟨x,aa,e⟩:=Option.map_eq_some_iff.1 h;exact⟨x,aa,e⟩
theorem RV(h:c8 k s=some l):∃eR,s=some eR/\l.length+1<=eR.length:=by
 cases s with
 | none=>cases h
 | some eR=>rw[oZ] at h;obtain⟨a,ak,rfl⟩:=Option.map_eq_some_iff.1 h;exact⟨eR,rfl,by have:=v7 ak;omega⟩
theorem KQ{P:List ByteArray->Option (List ByteArray×aL)}(gA:∀l x,P l=some x->x.1.length<=l.length)(h:(s.bind P).map (·.1)=some l):∃eR,s=some eR/\l.length<=eR.length:=by obtain⟨x,aa,rfl⟩:=acK h;obtain⟨eR,rfl,tC⟩:=aV aa;exact⟨eR,rfl,gA _ _ tC⟩
theorem acL{f:Nat}(h:o2 k f l=some x):x.1.length<=l.length:=by
 unfold o2 at h;split at h
 ·have:=Bp h;rw[List.length_tail] at this;omega
 ·obtain rfl:=bx h;exact ap
theorem RW(iS:k≠0)(hk:cM s=k)(h:eJ s=some l):∃eR,s=some eR/\l.length+1<=eR.length:=by obtain⟨eR,rfl,X⟩:=wa hk iS;obtain⟨t0,c3,rfl,_⟩:=kC X iS;obtain rfl:c3=l:=bx h;exact⟨_,rfl,by simp⟩
theorem acM{P:Nat->List ByteArray->Option (List ByteArray×aL)}(gA:∀n l x,P n l=some x->x.1.length<=l.length):∀(f:Nat) (l:List ByteArray) (x:List ByteArray×aL),gV P f l=some x->x.1.length<=l.length:=by
 intro f;induction f with
 | zero=>intro l x h;cases h
 | succ f aH=>
  intro l x h;rw[gV] at h;obtain⟨a,ak,h⟩:=aV h;have h1:=gA _ _ _ ak;split at h
  ·obtain⟨y,cn,h⟩:=aV h;obtain rfl:=bx h;have:=aH _ _ cn;rw[List.length_tail] at this;show y.1.length<=_;omega
  ·obtain rfl:=bx h;exact h1
theorem acN(h:su l=some x):x.1.length<=l.length:=by
 unfold su at h;split at h
 ·obtain⟨a,ak,h⟩:=aV h;have h1:=v7 ak;have H:=acM (fun n l x=>KO) _ _ _ h;rw[List.length_tail] at h1;omega
 ·obtain rfl:=bx h;exact ap
theorem acO(h:(s.bind DF).map (·.1)=some l):∃eR,s=some eR/\l.length<=eR.length:=by
 have key:∀(f:Nat) (eR:List ByteArray) (x:List ByteArray×List (ByteArray×ByteArray)),eM f eR=some x->x.1.length<=eR.length:=by
  intro f;induction f with
  | zero=>intro eR x h;cases h
  | succ f aH=>
   intro eR x h;rw[eM] at h;obtain⟨a,ak,h⟩:=aV h;have h1:=GP ak;split at h
   ·obtain⟨y,cn,h⟩:=aV h;obtain rfl:=bx h;have:=aH _ _ cn;rw[List.length_tail] at this;show y.1.length<=_;omega
   ·obtain rfl:=bx h;exact h1
 obtain⟨x,aa,rfl⟩:=Option.map_eq_some_iff.1 h;obtain⟨eR,rfl,tC⟩:=aV aa;exact⟨eR,rfl,key _ _ _ tC⟩
theorem RX(f:Nat)(b:Nat)(v:Value)(ts:List ByteArray)(c:Option (List ByteArray))(w:World)(h:Rd w b v ts c)(R:et w)(hs:gz ts)(b5:8<=b)(KI:Room (f+2) 4 c)(mK:∀e7,Room (f+1) 3 e7->kl 266 b v ts (bP (f+1) 1) e7):Calls prog 189 #[M b] w (dU w b v ts (c.bind (bP (f+2) 2))):=by
 obtain⟨s1,h1⟩:∃s,c8 14 c=s:=⟨_,rfl⟩;obtain⟨k2,H⟩:∃s,s1.bind (bP (f+1) 3)=s:=⟨_,rfl⟩;obtain⟨dd,ab⟩:∃s,c8 15 (k2.map (·.1))=s:=⟨_,rfl⟩;obtain⟨mJ,aK⟩:∃s,dd.bind DF=s:=⟨_,rfl⟩;obtain⟨tG,cO⟩:∃s,(mJ.map (·.1)).bind (o2 16 (f+1))=s:=⟨_,rfl⟩;obtain⟨k3,we⟩:∃s,tG.map (·.1)=s:=⟨_,rfl⟩;obtain⟨zq,kD⟩:∃s,k3.bind su=s:=⟨_,rfl⟩;obtain⟨jm,uX⟩:∃s,zq.map (·.1)=s:=⟨_,rfl⟩;obtain⟨Bs,vP⟩:∃s,jm.bind (o2 19 (f+1))=s:=⟨_,rfl⟩;obtain⟨Y,am⟩:=acC (f+1) c h1 H ab aK cO we kD uX vP;unfold dU;rw[<-Y];have hX:=u am;clear Y am;have uY:∀l,s1=some l->8*l.length+4<=f+2-8/\8*l.length+12<=f+2:=fun l X=>by obtain⟨eR,e,hle⟩:=RV (h1.trans X);have:=KI eR e;omega
 have KR:∀l,mJ.map (·.1)=some l->8*l.length+12<=f+2:=fun l X=>by rw[<-aK] at X;obtain⟨xT,bm,DG⟩:=acO X;obtain⟨bT,am,nu⟩:=RV (ab.trans bm);rw[<-H] at am;obtain⟨l1,Y,kz⟩:=KQ (fun _ _=>Bp) am;have:=(uY l1 Y).2;omega
 have RY:∀l,k3=some l->8*l.length+12<=f+2:=fun l X=>by rw[<-we,<-cO] at X;obtain⟨s9,hq,acP⟩:=KQ (fun _ _=>acL) X;have:=KR s9 hq;omega
 have RZ:∀l,jm=some l->8*l.length+12<=f+2:=fun l X=>by rw[<-uX,<-kD] at X;obtain⟨acQ,ol,arv⟩:=KQ (fun _ _=>acN) X;have:=RY acQ ol;omega
 have cY:=h.lt;have KS:=acJ (s:=dd) (N:=ts.length);rw[aK] at KS;have pI:s1.bind (gV (fun n=>bP n 0) (f+1))=k2:=by rw[<-H];congr 1;funext l;rw[Zx]
 have R0:rp w b v ts (w.alloc (.cells #[.slice none 0 0,.slice none 0 0,.pointer none,.slice none 0 0,.pointer none] 175)) c #[.slice none 0 0,.slice none 0 0,.pointer none,.slice none 0 0,.pointer none]:=⟨h.alloc _,World.grownBy_alloc _ _ _,bH w _⟩;have acR:=u KR;have acS:=u RZ;have rq:=u cO;have KT:=u we;have xU:=u kD;have KU:=u uX;have GR:=u vP;clear KR RY RZ cO we kD uX vP H;go_enter func189,ntmps189;go_wp2_with fail;refine(ll 14 14 rfl K b v ts c s1 _ rfl h1 _ _ (by simp) R0.rd hs.1).mono ?_;rintro e J ⟨rfl,ft,dv⟩;have xV:=R0.call cY ft dv;have b3:w.heap.size+1<=J.heap.size:=by have:=dv.size;simpa using this
 go_wp2_with fail;refine(ach (fun n=>bP n 0) 8 1 f K b v ts s1 J xV.rd (R.grown xV.fi b5) hs b5 (fun n l x=>Bp) (fun n e7 _ k4=>Rz n b v ts hs b5 e7 k4) (fun C ag=>by have:=(uY C ag).2;omega)).mono ?_;rw[pI];rintro e S ⟨ev,es,rfl,ej,dW,bC,hV⟩;obtain⟨o3,DH,rfl⟩:=cG ej;have zr:=xV.call cY dW bC;have z2:=bC.size;have arw:=zr.cell (i:=0) rfl;have arx:=zr.free 0;have R1:=zr.set 0 (.slice o3 es.length DH);go_wp2_with fail;refine(ll 15 15 rfl K b v ts _ dd _ rfl ab _ _ (size_set _ _ _) R1.rd hs.1).mono ?_;rintro e aA ⟨rfl,gY,eC⟩;have R2:=R1.call cY gY eC;have z3:=eC.size;rw[size_set] at z3;have wg:=KS gY.GQ;go_wp2_with fail;refine(acA ts.length b v ts dd aA R2.rd hs gY.GQ).mono ?_;rw[<-wg];rintro e bI ⟨sv,Bt,zt,rfl,KV,ns,gZ,sn⟩
 obtain⟨eD,hJ,rfl⟩:=cG KV;have KW:=R2.call cY ns gZ;have z4:=gZ.size;have ary:=KW.cell (i:=1) rfl;have arz:=KW.free 1;have R3:=KW.set 1 (.slice eD Bt hJ);clear KS wg h1 pI ab aK;have R4:=u hV;have R5:=u sn;clear hV sn;go_wp2_with fail;generalize zu:bI.setCell ⟨w.heap.size,1,none⟩ (.slice eD Bt hJ)=lU at *;have arA:lU.heap.size=bI.heap.size:=by rw[<-zu,size_set]
 have R6:iB (w.heap.size+1) S lU:=by have bq:iB (w.heap.size+1) S (S.setCell ⟨w.heap.size,0,none⟩ (.slice o3 es.length DH)):=it _ _ r;have a2:=bq.trans (gW eC r) (by rw[size_set];exact ap);have a3:=a2.trans (gW gZ r) r;have a4:=a3.trans (it bI (.slice eD Bt hJ) (o:=1) (show w.heap.size<w.heap.size+1 by omega)) r;rw[zu] at a4;exact a4
 have R7:iB (w.heap.size+1) bI lU:=by have a4:=it bI (.slice eD Bt hJ) (o:=1) (show w.heap.size<w.heap.size+1 by omega);rw[zu] at a4;exact a4
 clear zu;refine(pE b v ts _ 16 lU R3.rd hs.1).mono ?_;have bw:∃bB,decide (cM (mJ.map (·.1))=16)=bB:=⟨_,rfl⟩;obtain⟨bB,bw⟩:=bw;rw[bw];rintro e bh ⟨rfl,oY,fh⟩;have xW:=R3.call cY oY fh;have z5:=fh.size;have KX:iB (w.heap.size+1) lU bh:=gW fh r;go_upto_if 27 with fail;go_cut [] (fun wr=>∃(ws:List Value),rp w b v ts wr k3 #[.slice o3 es.length DH,.slice eD Bt hJ,jj ws,.slice none 0 0,.pointer none]/\iB (w.heap.size+1) lU wr/\lU.heap.size<=wr.heap.size/\∀y,tG=some y->df wr lU.heap.size wr.heap.size y.2 ws);case first=>
  cases bB
  ·have cy:cM (mJ.map (·.1))≠16:=by simpa using bw
   have b8:=RT (f:=f+1) (lo:=lU.heap.size) (hi:=bh.heap.size) (W:=bh) z5 cy;have ak:gL 16 (mJ.map (·.1))=mJ.map (·.1):=by unfold gL;rw[if_neg cy]
   rw[ak] at xW;have cO:=rq.d;have we:=KT.d;have ol:k3=mJ.map (·.1):=by rw[<-we,<-cO];exact b8.1.symm
   rw[<-ol] at xW;have DC:∀y,tG=some y->df bh lU.heap.size bh.heap.size y.2 []:=fun y cn=>b8.2 y.1 y.2 (by rw[cO];exact cn);clear bw b8 ak ol cO we cy;go_wp2_with fail;go_meet;case rel=>exact⟨[],xW,KX,z5,DC⟩
  ·have rr:cM (mJ.map (·.1))=16:=by simpa using bw
   have ak:gL 16 (mJ.map (·.1))=eJ (mJ.map (·.1)):=by unfold gL;rw[if_pos rr]
   rw[ak] at xW;have zv:=RU (f:=f+1) K rr;rw[rq.d] at zv;have R8:Room (f+1) 3 (eJ (mJ.map (·.1))):=fun l X=>by obtain⟨eR,ce,rn⟩:=RW K rr X;have:=acR.d eR ce;omega
   have wi:=mK _ R8 bh xW.rd (R.grown xW.fi b5);rw[<-zv] at wi;clear bw ak rr R8 zv;go_wp2_with fail;refine wi.mono ?_;rintro e cw ⟨KY,rfl,acT,rt,GS⟩;have xX:=xW.call cY acT rt;rw[KT.d] at xX;have arB:=xX.cell (i:=2) rfl;have arC:=xX.free 2;have acU:=xX.set 2 (M KY);have R9:=rt.size;have Bu:=((KX.trans (gW rt r) z5).trans (it cw (M KY) (o:=2) (show w.heap.size<w.heap.size+1 by omega)) r);clear wi;go_wp2_with fail;go_meet;case rel=>refine⟨[M KY],acU,Bu,by rw[size_set];omega,fun y cn=>?_⟩;rw[size_set];exact((GS y.1 y.2 cn).low z5).kept (it cw _ r)
 case rest=>
  obtain⟨ws,xX,Bu,R9,GS⟩:=hcut;clear KX z5 xW fh oY bw rq KT;go_wp2_with fail;refine(pE b v ts _ 17 wc xX.rd hs.1).mono ?_;have bw:∃bB,decide (cM k3=17)=bB:=⟨_,rfl⟩;obtain⟨acV,bw⟩:=bw;rw[bw];rintro e mL ⟨rfl,DI,GT⟩;have zw:=xX.call cY DI GT;have DJ:=GT.size;have KZ:iB (w.heap.size+1) wc mL:=gW GT r;generalize arD:wc=tH at *;go_upto_if 34 with fail;go_cut [] (fun wr=>∃(gv:Value) (gs:List Value),rp w b v ts wr jm #[.slice o3 es.length DH,.slice eD Bt hJ,jj ws,gv,.pointer none]/\iB (w.heap.size+1) tH wr/\tH.heap.size<=wr.heap.size/\wr.ownsRow (w.heap.size+1) 173 1 gv gs.length gs/\∀y,zq=some y->df wr tH.heap.size wr.heap.size y.2 gs);case first=>
   cases acV
   ·have cy:cM k3≠17:=by simpa using bw
    have b8:=acH (lo:=tH.heap.size) (hi:=mL.heap.size) (W:=mL) DJ cy;have ak:gL 17 k3=k3:=by unfold gL;rw[if_neg cy]
    rw[ak] at zw;have kD:=xU.d;have uX:=KU.d;have wj:jm=k3:=by rw[<-uX,<-kD];exact b8.1.symm
    have acW:∀y,zq=some y->df mL tH.heap.size mL.heap.size y.2 []:=fun y cn=>b8.2.2 y.1 y.2 (by rw[kD];exact cn);rw[<-wj] at zw;clear bw b8 ak wj kD uX cy;go_wp2_with fail;go_meet;case rel=>exact⟨.slice none 0 0,[],zw,KZ,DJ,World.ownsRow_nil _ _ _ _,acW⟩
   ·have rr:cM k3=17:=by simpa using bw
    have ak:gL 17 k3=eJ k3:=by unfold gL;rw[if_pos rr]
    rw[ak] at zw;have xY:=acI (N:=ts.length) rr xX.rd.GQ;rw[xU.d] at xY;obtain⟨Sa,K0⟩:∃s,c8 18 (eJ k3)=s:=⟨_,rfl⟩;rw[K0] at xY;have acX:=u xY;clear bw ak rr xY;go_wp2_with fail;refine(ll 18 18 rfl K b v ts _ Sa _ rfl K0 mL _ (by simp) zw.rd hs.1).mono ?_;rintro e zx ⟨rfl,Sb,K1⟩;have DK:=zw.call cY Sb K1;have acY:=K1.size;go_wp2_with fail;refine(acn (fun _=>hp) 1 0 ts.length K b v ts Sa zx DK.rd (R.grown DK.fi b5) hs b5 (fun n l x=>KO) (fun n e7 _ _ w' cC _=>Rk b v ts e7 w' cC hs.1) (fun C ag=>by have:=Sb.GQ C ag;omega)).mono ?_;rw[<-acX.d];rintro e uZ ⟨gv,gs,rfl,Sc,acZ,K2,ac0⟩;obtain⟨bf,o4,rfl⟩:=cG Sc;have GU:=DK.call cY acZ K2;rw[KU.d] at GU;have z9:=K2.size;have arE:=GU.cell (i:=3) rfl;have arF:=GU.free 3
    have ac1:=GU.set 3 (.slice bf gs.length o4);have aY:=DK.fi.size;have arG:w.heap.size<zx.heap.size:=(br DK.U).1;have ac2:=(KZ.trans (gW K1 r) DJ).trans (gW K2 r) r;have Bv:=it uZ (.slice bf gs.length o4) (o:=3) (show w.heap.size<w.heap.size+1 by omega);have ac3:=ac2.trans Bv r;clear K0;go_wp2_with fail;go_meet;case rel=>exact⟨.slice bf gs.length o4,gs,ac1,ac3,by rw[size_set];omega,Bv.row (ei r Sc),fun y cn=>by rw[size_set];exact((ac0 y.1 y.2 cn).low r).kept (Bv.mono r)⟩
  case rest=>
   obtain⟨gv,gs,Sd,Bw,arH,Se,Sf⟩:=hcut;clear KZ DJ zw GT DI bw xU KU;go_wp2_with fail;refine(pE b v ts _ 19 wc Sd.rd hs.1).mono ?_;have bw:∃bB,decide (cM jm=19)=bB:=⟨_,rfl⟩;obtain⟨ac4,bw⟩:=bw;rw[bw];rintro e tI ⟨rfl,ac5,K3⟩;have tJ:=Sd.call cY ac5 K3;have K4:=K3.size;have Bx:iB (w.heap.size+1) wc tI:=gW K3 r;cases ac4
   ·have cy:cM jm≠19:=by simpa using bw
    have b8:=RT (f:=f+1) (lo:=wc.heap.size) (hi:=tI.heap.size) (W:=tI) K4 cy;have ak:gL 19 jm=jm:=by unfold gL;rw[if_neg cy]
    rw[ak] at tJ;have vP:=GR.d;have sg:jm=Bs.map (·.1):=by rw[<-vP];exact b8.1
    have ac6:∀z,Bs=some z->df tI wc.heap.size tI.heap.size z.2 []:=fun z aY=>b8.2 z.1 z.2 (by rw[vP];exact aY);rw[sg] at tJ;clear bw b8 ak vP cy;go_wp2_with fail;go_ret;have eU:=fun C t au=>hX.d C t au;refine⟨w.heap.size,rfl,?_,tJ.fi,fun C t au=>?_⟩
    ·exact tJ.rd
    obtain⟨x,s,y,g,z,aa,cn,zv,xY,zy,rfl⟩:=eU C t au;obtain⟨K5,zj⟩:=R5.d s.1 s.2 cn;subst K5 zj;have aB:iB (w.heap.size+1) S tI:=((R6.trans Bu r).trans Bw r).trans Bx r;have K6:iB (w.heap.size+1) bI tI:=((R7.trans Bu r).trans Bw r).trans Bx r;have K7:iB (w.heap.size+1) tH tI:=Bw.trans Bx r;have cX:=aB.row (ei (by omega:w.heap.size+1<=J.heap.size) ej);have cA:=K6.row (ei (by omega:w.heap.size+1<=aA.heap.size) KV);have hy:=Bx.row Se;have t1:=((R4.d x.1 x.2 aa).wide (by omega:w.heap.size+1<=J.heap.size) (by omega:S.heap.size<=lU.heap.size)).kept aB;have t2:=(GS y zv).kept (K7.mono r);have t3:=(Sf g xY).kept (Bx.mono r)
    exact .query (l1:=w.heap.size+1) (h1:=tI.heap.size) ap (br tJ.U).1 (Nat.le_succ _) ap (.inl (Nat.lt_succ_self _)) tJ.U (ei (Nat.le_succ _) cX) (ei (Nat.le_succ _) cA) (ei (Nat.le_succ _) hy) t1 t2 t3 (ac6 z zy)
   ·have rr:cM jm=19:=by simpa using bw
    have ak:gL 19 jm=eJ jm:=by unfold gL;rw[if_pos rr]
    rw[ak] at tJ;have zy:=RU (f:=f+1) K rr;rw[GR.d] at zy;have Sg:Room (f+1) 3 (eJ jm):=fun l X=>by obtain⟨eR,ce,rn⟩:=RW K rr X;have:=acS.d eR ce;omega
    have wi:=mK _ Sg tI tJ.rd (R.grown tJ.fi b5);rw[<-zy] at wi;clear bw ak rr Sg zy;go_wp2_with fail;refine wi.mono ?_;rintro e DL ⟨By,rfl,ac7,K8,ac8⟩;have K9:=tJ.call cY ac7 K8;have arI:=K9.cell (i:=4) rfl;have arJ:=K9.free 4;have La:=K9.set 4 (M By);have z12:=K8.size;have arK:w.heap.size<tI.heap.size:=(br tJ.U).1;have Bv:=it DL (M By) (o:=4) (show w.heap.size<w.heap.size+1 by omega);have DM:=((Bx.trans (gW K8 r) K4).trans Bv r);clear wi;go_wp2_with fail;go_ret;have eU:=fun C t au=>hX.d C t au;refine⟨w.heap.size,rfl,?_,La.fi,fun C t au=>?_⟩
    ·exact La.rd
    obtain⟨x,s,y,g,z,aa,cn,zv,xY,zy,rfl⟩:=eU C t au;obtain⟨K5,zj⟩:=R5.d s.1 s.2 cn;subst K5 zj;have aB:iB (w.heap.size+1) S (DL.setCell ⟨w.heap.size,4,none⟩ (M By)):=((R6.trans Bu r).trans Bw r).trans DM r;have K6:iB (w.heap.size+1) bI (DL.setCell ⟨w.heap.size,4,none⟩ (M By)):=((R7.trans Bu r).trans Bw r).trans DM r;have K7:iB (w.heap.size+1) tH (DL.setCell ⟨w.heap.size,4,none⟩ (M By)):=Bw.trans DM r;have cX:=aB.row (ei (by omega:w.heap.size+1<=J.heap.size) ej);have cA:=K6.row (ei (by omega:w.heap.size+1<=aA.heap.size) KV);have hy:=DM.row Se;have t1:=((R4.d x.1 x.2 aa).wide (by omega:w.heap.size+1<=J.heap.size) (by omega:S.heap.size<=lU.heap.size)).kept aB;have t2:=(GS y zv).kept (K7.mono r);have t3:=(Sf g xY).kept (DM.mono r);rw[size_set]
    exact .query (l1:=w.heap.size+1) (h1:=DL.heap.size) (ev:=.slice o3 es.length DH) (sv:=.slice eD s.2.length hJ) (gv:=gv) (ws:=ws) (hs:=[M By]) ap r (Nat.le_succ _) ap (.inl (Nat.lt_succ_self _)) La.U (ei (Nat.le_succ _) cX) (ei (Nat.le_succ _) cA) (ei (Nat.le_succ _) hy) t1 t2 t3 (((ac8 z.1 z.2 zy).low K4).kept (Bv.mono r))
theorem Lb(P:List ByteArray->Option (List ByteArray×aL))(b:Nat)(v:Value)(ts:List ByteArray)(hs:gz ts)(b5:8<=b):kl 266 b v ts P none:=fun w h R=>
 RD b v ts none 0 rfl none w h hs (fun W aO he=>by
  have o1:et W:=R.kept (by rw[he];exact ap) (fun k _=>by rw[he]);exact RC P b v ts none W aO o1 hs b5 (GJ P b v ts hs) (by show cM none≠23;rw[show cM none=0 from rfl];decide) (by
   have e:eJ (eV [8,9,10] (((none:Option (List ByteArray)).bind P).map (·.1)))=none:=by show eJ (eV [8,9,10] none)=none;rw[zf];rfl
   rw[e];exact GJ P b v ts hs)) K K K
theorem Lc(P:List ByteArray->Option (List ByteArray×aL))(b:Nat)(v:Value)(ts:List ByteArray)(hs:gz ts)(b5:8<=b):kl 189 b v ts P none:=fun w h R=>
 RX 0 b v ts none w h R hs b5 (fun C e=>by cases e) (fun e7 ag=>by
  cases e7 with
  | none=>exact Lb _ b v ts hs b5
  | some l=>have:=ag l rfl;omega)
theorem ac9:∀f,(∀(b:Nat) (v:Value) (ts:List ByteArray),gz ts->8<=b->∀c,Room f 3 c->kl 266 b v ts (bP f 1) c)/\(∀(b:Nat) (v:Value) (ts:List ByteArray),gz ts->8<=b->∀c,Room f 4 c->kl 189 b v ts (bP f 2) c):=by
 intro f;induction f with
 | zero=>
  refine⟨fun b v ts hs b5 c ag=>?_,fun b v ts hs b5 c ag=>?_⟩
  ·cases c with
   | none=>exact Lb _ b v ts hs b5
   | some l=>have:=ag l rfl;omega
  ·cases c with
   | none=>exact Lc _ b v ts hs b5
   | some l=>have:=ag l rfl;omega
 | succ f aH=>
  refine⟨fun b v ts hs b5 c ag=>?_,fun b v ts hs b5 c ag=>?_⟩
  ·cases c with
   | none=>exact Lb _ b v ts hs b5
   | some l=>
    intro w h R;have tw:=ag l rfl;rw[b2];by_cases tA:hk l=22
    ·rw[ab7 tA];obtain⟨t,C,rfl,_⟩:=kC tA K;exact acd (bP f 1) b v ts (t::C) w h R hs b5 tA (aH.1 b v ts hs b5 _ (fun lK e=>by obtain rfl:=bx e;rw[di] at tw;show 8*C.length+3<=f;omega))
    by_cases ro:hk l=25
    ·rw[ab8 ro];refine ace b v ts (some l) 25 ro _ w h hs (fun W aO he=>?_) rfl;have o1:et W:=R.kept (by rw[he];exact ap) (fun k _=>by rw[he]);obtain⟨t,C,rfl,_⟩:=kC ro K;exact ab6 (bP f 2) b v ts (t::C) W aO o1 hs b5 ro (aH.2 b v ts hs b5 _ (Rw (by rw[di] at tw;show 8*C.length+4<=f+8;omega)))
    by_cases aK:hk l=4/\oS 0 (l.map dD)=true
    ·rw[aca aK.1 aK.2];obtain⟨aK,ct⟩:=aK;obtain⟨t,C,rfl,zl⟩:=kC aK K;have kz:8*C.length+3<=f:=by rw[di] at tw;omega
     have dG:c8 4 (some (t::C))=some C:=by rw[oZ,dq,if_pos zl];rfl
     refine acg (bP f 1) b v ts (t::C) w h hs R b5 aK ct ?_ ?_
     ·rw[dG];exact aH.1 b v ts hs b5 _ (fun lK e=>by obtain rfl:=bx e;exact kz)
     ·refine aH.1 b v ts hs b5 _ (fun lK e=>?_);rw[dG,b2,(Bo [20,21] K _).1] at e;cases aa:bP f 1 C with
      | none=>rw[aa] at e;cases e
      | some x=>
       rw[aa] at e;have hle:=Bp aa;simp only[eQ,b2] at e;split at e
       ·obtain rfl:=bx e;rw[List.length_tail];omega
       ·cases e
    ·rw[acb tA ro aK];have eU:=Rz f b v ts hs b5;have GV:∀W:World,Rd W b v ts (some l)->et W->Calls prog 357 #[M b] W (dU W b v ts (uW (bP f 0) l)):=by
      intro W aO o1;have aj:kl 263 b v ts (bP f 0) (some l):=eU _ (fun C e=>by obtain rfl:=bx e;omega);by_cases qx:cM (((some l).bind (bP f 0)).map (·.1))=23
      ·exact ab4 (bP f 0) b v ts (some l) W aO o1 hs aj qx
      ·refine RC (bP f 0) b v ts (some l) W aO o1 hs b5 aj qx (eU _ (fun C e=>?_));rw[b2,(Bo [8,9,10] K _).1] at e;cases aa:bP f 0 l with
       | none=>rw[aa] at e;cases e
       | some x=>
        rw[aa] at e;have hle:=Bp aa;simp only[eQ,b2] at e;split at e
        ·obtain rfl:=bx e;rw[List.length_tail];omega
        ·cases e
     by_cases sw:hk l=4
     ·have b8:oS 0 (l.map dD)=false:=by
       cases e:oS 0 (l.map dD)
       ·rfl
       ·exact absurd ⟨sw,e⟩ aK
      exact acf b v ts l _ w h hs sw b8 (fun W aO bw=>GV W aO (R.below bw R.js))
     ·exact RD b v ts (some l) (hk l) rfl _ w h hs (fun W aO he=>GV W aO (R.kept (by rw[he];exact ap) (fun k _=>by rw[he]))) tA ro sw
  ·cases c with
   | none=>exact Lc _ b v ts hs b5
   | some l=>have tw:=ag l rfl;obtain⟨f,rfl⟩:∃g,f=g+1:=⟨f-1,r⟩;intro w h R;exact RX f b v ts (some l) w h R hs b5 ag (aH.1 b v ts hs b5)
def ru(l:List ByteArray):Option (List ByteArray×aL):=bP (8*l.length+8) 2 l
theorem Ld(b:Nat)(v:Value)(ts:List ByteArray)(hs:gz ts)(b5:8<=b)(c:Option (List ByteArray)):kl 189 b v ts ru c:=by
 cases c with
 | none=>exact Lc _ b v ts hs b5
 | some l=>intro w h R;have aa:=(ac9 (8*l.length+8)).2 b v ts hs b5 (some l) (fun C e=>by obtain rfl:=bx e;omega) w h R;rw[b2] at aa ⊢;rw[ru];exact aa
def gq(l:List ByteArray):Nat:=if hk l=31 then 1 else if hk l=32 then 2 else 0
def kE(l:List ByteArray):Option (List ByteArray×aL):=if hk l=31 then (dq 2 l.tail).bind fun a=>ru a.2 else if hk l=32 then ru l.tail else ru l
theorem ada(k:Nat)(hk:k≠0)(c:Option (List ByteArray)):mH k c=jG (eV [k] c):=(Rj k hk c).1.symm
theorem adb(b:Nat)(v:Value)(ts:List ByteArray)(c:Option (List ByteArray))(w:World)(h:Rd w b v ts c)(hs:gz ts):Calls prog 188 #[M b] w fun e w'=>e=.returned (q (fy (mH 2 c).2.data.toList).1.num)/\Rd w' b v ts (c8 2 c)/\w.grownBy w' (some b):=by
 have mi:=Rl h hs [2];rw[<-ada 2 K] at mi;generalize bi:mH 2 c=T at *;generalize dG:c8 2 c=c1;obtain⟨jt,bG⟩:=T;simp only at mi ⊢;generalize b1:fy bG.data.toList=cm;obtain⟨lO,rb⟩:=cm;have cK:=u b1;clear b1;go_enter func188,ntmps188;go_wp2_with fail;refine(ll 2 2 rfl K b v ts c c1 _ bi dG w _ (by simp) h hs.1).mono ?_;rintro e J ⟨rfl,ft,dv⟩;clear bi dG;have GF:=Rm jt bG J;go_wp2_with (go_at_call 180;refine(Gz bG _ r).mono ?_;rintro e S ⟨rfl,ah⟩;rw[cK.d];simp only[cb]);have bC:J.grownBy S (some b):=⟨ah.os,ah.tape,ah.output,ah.size,fun k hk _=>ah.block k hk⟩;go_ret;exact⟨rfl,(ft.below ah).alloc _,(dv.trans bC).trans (World.grownBy_alloc S _ _)⟩
def GW(w:World)(b:Nat)(v:Value)(ts:List ByteArray)(adc:Nat)(ade:Int)(o:Option (List ByteArray×aL))(e:Ending)(w':World):Prop:=∃(sp:Int) (x:Nat),Hid (sp=ade)/\e=.returned (.agg #[q (adc:Int),q sp,M x])/\Rd w' b v ts (o.map (·.1))/\w.grownBy w' (some b)/\∀C t,o=some (C,t)->∃hi,df w' w.heap.size hi t [M x]
structure rv (w:World) (b:Nat) (v:Value) (ts:List ByteArray) (W:World) (s:Option (List ByteArray)) (cs:Array Value):Prop where
 rd:Rd W b v ts s
 fi:w.grownBy W (some b)
 C:W.heap[w.heap.size]?=some (.cells #[q 0,q 0,.pointer none] 101 (0,0))
 U:W.heap[w.heap.size+1]?=some (.cells cs 101 (0,0))
theorem rv.call{aU:World}{fu:Option (List ByteArray)}(h:rv w b v ts W s cs)(A:b<w.heap.size)(ag:Rd aU b v ts fu)(R:W.grownBy aU (some b)):rv w b v ts aU fu cs:=⟨ag,h.fi.trans R,nP h.C R r,nP h.U R r⟩
theorem rv.set{w:World}{b:Nat}{v:Value}{ts:List ByteArray}{W:World}{s:Option (List ByteArray)}{cs:Array Value}(h:rv w b v ts W s cs)(i:Nat)(x:Value):rv w b v ts (W.setCell ⟨w.heap.size+1,i,none⟩ x) s (cs.setIfInBounds i x):=⟨h.rd.set x h.U K K,k1 h.fi (Nat.le_succ _) i x,(Below.heap_setCell _ _ _ _ (by show w.heap.size≠w.heap.size+1;omega)).trans h.C,heap_setCell h.U x⟩
theorem rv.cell{w:World}{b:Nat}{v:Value}{ts:List ByteArray}{W:World}{s:Option (List ByteArray)}{cs:Array Value}(h:rv w b v ts W s cs){i:Nat}{x:Value}(aa:cs[i]?=some x):W.cell? ⟨w.heap.size+1,i,none⟩=some x:=Z h.U aa
theorem rv.free(h:rv w b v ts W s cs)(i:Nat):W.frozen? ⟨w.heap.size+1,i,none⟩=false:=aQ h.U
theorem Le(h:cM c≠k):gL k c=c:=by unfold gL;rw[if_neg h]
theorem Sh(h:cM c=k):gL k c=eJ c:=by unfold gL;rw[if_pos h]
theorem adf(h:cM c=31):(c8 2 (eJ c)).bind ru=c.bind kE:=by
 obtain⟨l,rfl,X⟩:=wa h K;obtain⟨t0,c3,rfl,_⟩:=kC X K;rw[b2];unfold kE;rw[if_pos X];show(c8 2 (some c3)).bind ru=_;rw[oZ,List.tail_cons];cases dq 2 c3 with
 | none=>rfl
 | some a=>rfl
theorem adg(h:cM c=32):(eJ c).bind ru=c.bind kE:=by obtain⟨l,rfl,X⟩:=wa h K;obtain⟨t0,c3,rfl,_⟩:=kC X K;rw[b2];unfold kE;rw[if_neg r,if_pos X];rfl
theorem adh(h:cM c≠31)(H:cM c≠32):c.bind ru=c.bind kE:=by
 cases c with
 | none=>rfl
 | some l=>rw[b2,b2];unfold kE;rw[if_neg (by exact h),if_neg (by exact H)]
theorem adi(b:Nat)(v:Value)(ts:List ByteArray)(c:Option (List ByteArray))(w:World)(h:Rd w b v ts c)(R:et w)(hs:gz ts)(b5:8<=b)(lV:cM c≠31)(qz:cM c≠32):Calls prog 131 #[M b] w (GW w b v ts 0 0 (c.bind kE)):=by
 have cY:=h.lt;have fs:=h.own;have k5:rv w b v ts ((w.alloc (.cells #[q 0,q 0,.pointer none] 101)).alloc (.cells #[q 0,q 0,.pointer none] 101)) c #[q 0,q 0,.pointer none]:=⟨(h.alloc _).alloc _,(World.grownBy_alloc w _ _).trans (World.grownBy_alloc _ _ _),nO (bH w _) _,vY _ _ (by simp) _⟩;rw[<-adh lV qz];go_enter func131,ntmps131;go_wp2_with fail;refine(pE b v ts c 31 _ k5.rd hs.1).mono ?_;rw[Le lV,decide_eq_false lV];rintro e J ⟨rfl,ft,dv⟩;have ha:=k5.call cY ft dv;go_wp2_with fail;refine(pE b v ts c 32 J ha.rd hs.1).mono ?_;rw[Le qz,decide_eq_false qz];rintro e S ⟨rfl,dW,bC⟩;have jJ:=ha.call cY dW bC;clear lV qz;go_wp2_with fail;refine(Ld b v ts hs b5 c S jJ.rd (R.grown jJ.fi b5)).mono ?_;rintro e wk ⟨x,rfl,DN,mj,DO⟩;have tK:=jJ.call cY DN mj
 have bN:=tK.cell (i:=2) rfl;have f2:=tK.free 2;have hZ:=tK.set 2 (M x);have Si:=mj.size;have iE:w.heap.size+2<=S.heap.size:=by have:=(br jJ.U).1;omega
 have c3:=Z hZ.C (i:=0) rfl;have cX:=Z hZ.C (i:=1) rfl;have cA:=Z hZ.C (i:=2) rfl;have g0:=aQ (i:=0) hZ.C;have g1:=aQ (i:=1) hZ.C;have g2:=aQ (i:=2) hZ.C;have gm:=hZ.cell (i:=0) rfl;have aI:=hZ.cell (i:=1) rfl;have aZ:=hZ.cell (i:=2) rfl;go_wp2_with fail;refine bodyPost_ret (v:=.agg #[q 0,q 0,M x]) (by simp[results,results131,go_sem, *]) rfl ⟨0,x,u rfl,rfl,?_,?_,fun C t au=>?_⟩
 ·exact((hZ.rd.pD fs cY ap _).pD fs cY ap _).pD fs cY ap _
 ·exact k1 (k1 (k1 hZ.fi ap _ _) ap _ _) ap _ _
 ·have pH:=(DO C t au).low (by omega:w.heap.size+2<=S.heap.size);exact⟨_,((((pH.kept (it wk _ (show w.heap.size+1<w.heap.size+2 by omega))).kept (it _ _ (show w.heap.size<w.heap.size+2 by omega))).kept (it _ _ (show w.heap.size<w.heap.size+2 by omega))).kept (it _ _ (show w.heap.size<w.heap.size+2 by omega))).low r⟩
theorem adj(b:Nat)(v:Value)(ts:List ByteArray)(c:Option (List ByteArray))(w:World)(h:Rd w b v ts c)(R:et w)(hs:gz ts)(b5:8<=b)(qz:cM c=32):Calls prog 131 #[M b] w (GW w b v ts 2 0 (c.bind kE)):=by
 have cY:=h.lt;have fs:=h.own;have k5:rv w b v ts ((w.alloc (.cells #[q 0,q 0,.pointer none] 101)).alloc (.cells #[q 0,q 0,.pointer none] 101)) c #[q 0,q 0,.pointer none]:=⟨(h.alloc _).alloc _,(World.grownBy_alloc w _ _).trans (World.grownBy_alloc _ _ _),nO (bH w _) _,vY _ _ (by simp) _⟩;rw[<-adg qz];go_enter func131,ntmps131;go_wp2_with fail;have lV:cM c≠31:=r;refine(pE b v ts c 31 _ k5.rd hs.1).mono ?_;rw[Le lV,decide_eq_false lV];rintro e J ⟨rfl,ft,dv⟩;have ha:=k5.call cY ft dv;go_wp2_with fail;refine(pE b v ts c 32 J ha.rd hs.1).mono ?_;rw[Sh qz,decide_eq_true qz];rintro e S ⟨rfl,dW,bC⟩;have jJ:=ha.call cY dW bC;have k6:=jJ.cell (i:=0) rfl;have f0:=jJ.free 0;have wl:=jJ.set 0 (q 2);clear lV qz;go_wp2_with fail
 refine(Ld b v ts hs b5 (eJ c) _ wl.rd (R.grown wl.fi b5)).mono ?_;rintro e wk ⟨x,rfl,DN,mj,DO⟩;have tK:=wl.call cY DN mj;have bN:=tK.cell (i:=2) rfl;have f2:=tK.free 2;have hZ:=tK.set 2 (M x);have Si:=mj.size;have iE:w.heap.size+2<=(S.setCell ⟨w.heap.size+1,0,none⟩ (q 2)).heap.size:=by have:=(br wl.U).1;omega
 have c3:=Z hZ.C (i:=0) rfl;have cX:=Z hZ.C (i:=1) rfl;have cA:=Z hZ.C (i:=2) rfl;have g0:=aQ (i:=0) hZ.C;have g1:=aQ (i:=1) hZ.C;have g2:=aQ (i:=2) hZ.C;have gm:=hZ.cell (i:=0) rfl;have aI:=hZ.cell (i:=1) rfl;have aZ:=hZ.cell (i:=2) rfl;go_wp2_with fail;refine bodyPost_ret (v:=.agg #[q 2,q 0,M x]) (by simp[results,results131,go_sem, *]) rfl ⟨0,x,u rfl,rfl,?_,?_,fun C t au=>?_⟩
 ·exact((hZ.rd.pD fs cY ap _).pD fs cY ap _).pD fs cY ap _
 ·exact k1 (k1 (k1 hZ.fi ap _ _) ap _ _) ap _ _
 ·have pH:=(DO C t au).low (by omega:w.heap.size+2<=(S.setCell ⟨w.heap.size+1,0,none⟩ (q 2)).heap.size);exact⟨_,((((pH.kept (it wk _ (show w.heap.size+1<w.heap.size+2 by omega))).kept (it _ _ (show w.heap.size<w.heap.size+2 by omega))).kept (it _ _ (show w.heap.size<w.heap.size+2 by omega))).kept (it _ _ (show w.heap.size<w.heap.size+2 by omega))).low r⟩
theorem adk(b:Nat)(v:Value)(ts:List ByteArray)(c:Option (List ByteArray))(w:World)(h:Rd w b v ts c)(R:et w)(hs:gz ts)(b5:8<=b)(lV:cM c=31):Calls prog 131 #[M b] w (GW w b v ts 1 (fy (mH 2 (eJ c)).2.data.toList).1.num (c.bind kE)):=by
 have cY:=h.lt;have fs:=h.own;have k5:rv w b v ts ((w.alloc (.cells #[q 0,q 0,.pointer none] 101)).alloc (.cells #[q 0,q 0,.pointer none] 101)) c #[q 0,q 0,.pointer none]:=⟨(h.alloc _).alloc _,(World.grownBy_alloc w _ _).trans (World.grownBy_alloc _ _ _),nO (bH w _) _,vY _ _ (by simp) _⟩;rw[<-adf lV];go_enter func131,ntmps131;go_wp2_with fail;refine(pE b v ts c 31 _ k5.rd hs.1).mono ?_;rw[Sh lV,decide_eq_true lV];rintro e J ⟨rfl,ft,dv⟩;have ha:=k5.call cY ft dv;have k6:=ha.cell (i:=0) rfl;have f0:=ha.free 0;have Sj:=ha.set 0 (q 1);clear lV;go_wp2_with fail;refine(adb b v ts (eJ c) _ Sj.rd hs).mono ?_;generalize Sk:(fy (mH 2 (eJ c)).2.data.toList).1.num=sp;have zz:=u Sk.symm;clear Sk;rintro e S ⟨rfl,dW,bC⟩;have jJ:=Sj.call cY dW bC
 have q1:=jJ.cell (i:=1) rfl;have f1:=jJ.free 1;have wl:=jJ.set 1 (q sp);go_wp2_with fail;refine(Ld b v ts hs b5 _ _ wl.rd (R.grown wl.fi b5)).mono ?_;rintro e wk ⟨x,rfl,DN,mj,DO⟩;have tK:=wl.call cY DN mj;have bN:=tK.cell (i:=2) rfl;have f2:=tK.free 2;have hZ:=tK.set 2 (M x);have Si:=mj.size;have iE:w.heap.size+2<=(S.setCell ⟨w.heap.size+1,1,none⟩ (q sp)).heap.size:=by have:=(br wl.U).1;omega
 have c3:=Z hZ.C (i:=0) rfl;have cX:=Z hZ.C (i:=1) rfl;have cA:=Z hZ.C (i:=2) rfl;have g0:=aQ (i:=0) hZ.C;have g1:=aQ (i:=1) hZ.C;have g2:=aQ (i:=2) hZ.C;have gm:=hZ.cell (i:=0) rfl;have aI:=hZ.cell (i:=1) rfl;have aZ:=hZ.cell (i:=2) rfl;go_wp2_with fail;refine bodyPost_ret (v:=.agg #[q 1,q sp,M x]) (by simp[results,results131,go_sem, *]) rfl ⟨sp,x,zz,rfl,?_,?_,fun C t au=>?_⟩
 ·exact((hZ.rd.pD fs cY ap _).pD fs cY ap _).pD fs cY ap _
 ·exact k1 (k1 (k1 hZ.fi ap _ _) ap _ _) ap _ _
 ·have pH:=(DO C t au).low (by omega:w.heap.size+2<=(S.setCell ⟨w.heap.size+1,1,none⟩ (q sp)).heap.size);exact⟨_,((((pH.kept (it wk _ (show w.heap.size+1<w.heap.size+2 by omega))).kept (it _ _ (show w.heap.size<w.heap.size+2 by omega))).kept (it _ _ (show w.heap.size<w.heap.size+2 by omega))).kept (it _ _ (show w.heap.size<w.heap.size+2 by omega))).low r⟩
def mM(l:List ByteArray):Int:=if hk l=31 then (fy (mH 2 (eJ (some l))).2.data.toList).1.num else 0
theorem adl(b:Nat)(v:Value)(ts:List ByteArray)(l:List ByteArray)(w:World)(h:Rd w b v ts (some l))(R:et w)(hs:gz ts)(b5:8<=b):Calls prog 131 #[M b] w (GW w b v ts (gq l) (mM l) (kE l)):=by
 by_cases lV:hk l=31
 ·have e:gq l=1:=by unfold gq;rw[if_pos lV]
  rw[e,show mM l=_ from if_pos lV];exact adk b v ts (some l) w h R hs b5 lV
 ·by_cases qz:hk l=32
  ·have e:gq l=2:=by unfold gq;rw[if_neg lV,if_pos qz]
   rw[e,show mM l=_ from if_neg lV];exact adj b v ts (some l) w h R hs b5 qz
  ·have e:gq l=0:=by unfold gq;rw[if_neg lV,if_neg qz]
   rw[e,show mM l=_ from if_neg lV];exact adi b v ts (some l) w h R hs b5 lV qz
def adm(ts:List ByteArray)(w:World)(e:Ending)(w':World):Prop:=(∃(t:aL) (sp:Int) (x:Nat),Hid (sp=mM ts)/\kE ts=some ([],t)/\e=.returned (.tuple #[.agg #[q (gq ts:Int),q sp,M x],.bool true])/\(∃hi,df w' w.heap.size hi t [M x])/\Below w.heap.size w w')\/((∀t,kE ts≠some ([],t))/\e=.returned (.tuple #[.agg #[q 0,q 0,.pointer none],.bool false])/\Below w.heap.size w w')
theorem Rd.flag(h:Rd w b v ts s):w.cell? ⟨b,2,none⟩=some (.bool s.isNone):=by obtain⟨p,bad,h1,_,_,_,rfl⟩:=h;have:=h1.cells.2.2;rw[this];cases bad<;>rfl
theorem Rd.sub(h:Rd w b v ts (some l)):∀t∈l,t∈ts:=by
 obtain⟨p,bad,_,_,_,_,ai⟩:=h;cases bad
 ·obtain rfl:=bx ai;exact fun t au=>List.mem_of_mem_drop au
 ·cases ai
theorem adn{o:Option (List ByteArray×aL)}(h:Rd w b v ts (o.map (·.1)))(hk:tl ts):(∃t,o=some ([],t)/\eJ (eV [0] (o.map (·.1)))=some [])\/((∀t,o≠some ([],t))/\eJ (eV [0] (o.map (·.1)))=none):=by
 cases o with
 | none=>exact Or.inr ⟨(fun t e=>by cases e),by show eJ (eV [0] none)=none;rw[zf];rfl⟩
 | some x=>
  obtain⟨C,t⟩:=x;cases C with
  | nil=>exact Or.inl ⟨t,rfl,rfl⟩
  | cons a l=>refine Or.inr ⟨(fun e6 e=>by cases e),?_⟩;have ado:dD a≠0:=hk a (Rd.sub (l:=a::l) h a List.mem_cons_self);show eJ (eV [0] (some (a::l)))=none;unfold eV;rw[Ri];have e:cM (some (a::l))=dD a:=rfl;rw[e,decide_eq_false ado];rfl
theorem adp(v:Value)(ts:List ByteArray)(w:World)(an:w.ownsRow 0 154 2 v ts.length (gn ts))(R:et w)(hs:gz ts)(hk:tl ts):Calls prog 78 #[v] w (adm ts w):=by
 have k0:=R.js;obtain⟨aC,fj,rfl⟩:=cG an;have fs:∀k,(Value.slice aC ts.length fj).ownBlock=some k->k<w.heap.size:=fun k e=>(an.lt k e).2;go_enter func78,ntmps78;go_wp2_with fail;generalize DP:(w.alloc (.cells #[q 0,q 0,.pointer none] 101)).alloc (.cells #[.slice aC ts.length fj,q 0,.bool false] 243)=hz;have z0:hz.heap.size=w.heap.size+2:=by rw[<-DP];simp
 have xE:Rd hz (w.heap.size+1) (.slice aC ts.length fj) ts (some ts):=by rw[<-DP];exact⟨0,false,vY _ _ (by simp) _,(an.alloc _).alloc _,bu,(fun e=>Bool.noConfusion e),by simp⟩
 have tL:hz.heap[w.heap.size]?=some (.cells #[q 0,q 0,.pointer none] 101 (0,0)):=by rw[<-DP];exact nO (bH w _) _
 have kF:Below w.heap.size w hz:=by rw[<-DP];exact cT.alloc (by simp) _
 have th:et hz:=R.below kF k0;have c4:=adl (w.heap.size+1) (.slice aC ts.length fj) ts ts hz xE th hs r;clear DP;refine c4.mono ?_;rintro e J ⟨sp,x,zz,rfl,ft,dv,pL⟩;clear c4;have b3:=dv.size;have ju:=nP tL dv r;have te:=adn ft hk;have sk:=ft.alloc (.cells #[q (gq ts:Int),q sp,M x] 101);go_wp2_with fail;rcases te with⟨t,Lf,zd⟩ | ⟨b8,zd⟩
 ·refine(GE [0] _ 1 rfl rfl K (w.heap.size+1) _ ts _ _ _ rfl zd _ _ (by simp) sk hs.1).mono ?_;rintro e S ⟨rfl,dW,bC⟩;have z2:J.heap.size+1<=S.heap.size:=by have:=bC.size;simpa using this
  have iT:=dW.flag;have fq:=nP (bH J (.cells #[q (gq ts:Int),q sp,M x] 101)) bC r;have ot:=nP (nO ju (.cells #[q (gq ts:Int),q sp,M x] 101)) bC r;have eR:=Z fq (i:=0) rfl;have l1:=Z fq (i:=1) rfl;have bT:=Z fq (i:=2) rfl;have c3:=Z ot (i:=0) rfl;have cX:=Z ot (i:=1) rfl;have cA:=Z ot (i:=2) rfl;have g0:=aQ (i:=0) ot;have g1:=aQ (i:=1) ot;have g2:=aQ (i:=2) ot;have adq:S.cell? ⟨w.heap.size+1,2,none⟩=some (.bool false):=iT;have ah:Below w.heap.size w S:=kF.trans ((Below.grown (Below.refl _ hz) dv r (fun k e=>by cases e;omega)).trans (Below.grown ((Below.refl _ J).alloc r _) bC (by simp;omega) (fun k e=>by cases e;omega)));obtain⟨Lg,adr⟩:=pL [] t Lf
  have hV:df S (w.heap.size+2) Lg t [M x]:=((adr.low r).kept (uT _ _ _)).kept (gW bC r);have ads:=u Lf;clear iT Lf zd;go_wp2_with fail;refine bodyPost_ret (v:=.tuple #[.agg #[q (gq ts:Int),q sp,M x],.bool true]) (by simp[results,results78,go_sem, *]) rfl (Or.inl ⟨t,sp,x,zz,ads.d,rfl,?_,?_⟩)
  ·exact⟨Lg,(((hV.kept (it _ _ (show w.heap.size<w.heap.size+2 by omega))).kept (it _ _ (show w.heap.size<w.heap.size+2 by omega))).kept (it _ _ (show w.heap.size<w.heap.size+2 by omega))).low r⟩
  ·exact((ah.setCell ap _).setCell ap _).setCell ap _
 ·refine(GE [0] _ 1 rfl rfl K (w.heap.size+1) _ ts _ _ _ rfl zd _ _ (by simp) sk hs.1).mono ?_;rintro e S ⟨rfl,dW,bC⟩;have z2:J.heap.size+1<=S.heap.size:=by have:=bC.size;simpa using this
  have iT:=dW.flag;have ot:=nP (nO ju (.cells #[q (gq ts:Int),q sp,M x] 101)) bC r;have c3:=Z ot (i:=0) rfl;have cX:=Z ot (i:=1) rfl;have cA:=Z ot (i:=2) rfl;have g0:=aQ (i:=0) ot;have g1:=aQ (i:=1) ot;have g2:=aQ (i:=2) ot;have adq:S.cell? ⟨w.heap.size+1,2,none⟩=some (.bool true):=iT;have ah:Below w.heap.size w S:=kF.trans ((Below.grown (Below.refl _ hz) dv r (fun k e=>by cases e;omega)).trans (Below.grown ((Below.refl _ J).alloc r _) bC (by simp;omega) (fun k e=>by cases e;omega)));have nv:=u b8;clear iT b8 zd pL;go_wp2_with fail;refine bodyPost_ret (v:=.tuple #[.agg #[q 0,q 0,.pointer none],.bool false]) (by simp[results,results78,go_sem, *]) rfl (Or.inr ⟨nv.d,rfl,?_⟩)
  exact((ah.setCell ap _).setCell ap _).setCell ap _
end Go.Proofs.YtbkeflgafjnefaaGreatDoor
