import Derived.Test.YtjebdgbpopolkaaGreatDoorM025
import Derived.Test.YtjebdgbpopolkaaGreatDoorM027
set_option maxHeartbeats 0
set_option maxRecDepth 100000
set_option linter.all false
namespace Go.Proofs.YtjebdgbpopolkaaGreatDoor
open Tryz
open Go.RowKit
open bS
variable{I:List dC}{O:Int}{ao:Bool}{B:List eb}{w:World}{F:Nat->Prop}{wb:Nat}{G:Option Nat}
structure Fits (I:List eO) (ao:Bool) (st:az):Prop where
 ad:cB I st.ad
 aG:ao=true->rD I st.bF/\∀c∈st.bF,1<=c.length
def aj0(t:aL):ga l0 t=dJ t:=by
 induction t with
 | nil=>rfl
 | cons a b h1 H=>show(ga l0 a||ga l0 b)=(dJ a||dJ b);rw[h1,H]
 | node k s n v p U h1 H=>show(nY k||ga l0 p)=_;rw[h1];rfl
 | query=>rfl
def Co{I E:List eO}(dA : -1000000000000<=O)(er:O<=1000000000000){t:aL}(R:aJ t 0)(ak:dJ t=true->ao=true){st:az}(h:Fits E ao st):fv (ca I O t st).1/\Fits E ao (ca I O t st).2/\(ca I O t st).2.bF=st.bF/\(ca I O t st).2.eP=st.eP:=by obtain⟨h1,H,ab,aK⟩:=Eg I E O dA er (eY t) t ap st R h.ad (fun e=>(h.aG (ak e)).1);exact⟨h1,⟨H,fun e=>by rw[ab];exact h.aG e⟩,ab,aK⟩
def dK.parts{lo hi:Nat}{k:Nat}{s n:e6}{v:al}{p U:aL}{b:Nat}(h:dK B w (.node k s n v p U) I lo hi [M b]):∃cs co xs l1 m,w.heap[b]?=some (.cells cs 247 (0,0))/\cs[0]?=some (q (k:Int))/\cs[6]?=some co/\eK w co xs/\dK B w p I l1 m xs:=by obtain⟨kH,l1,m,h1,co,xs,qs,p0,p1,p2,e,-,A,ag,-,H,-⟩:=h;injection e with e _;injection e with e;injection e with e;injection e with e;subst e;exact⟨_,co,xs,l1,m,A,rfl,rfl,ei bu ag,H⟩
def p5.aj1{B:List bG}{ok zP:az->Prop}{x:Value}{f:az->al×az}(h:p5 F wb G B O ao ok w x f)(hi:∀st,zP st->ok st):p5 F wb G B O ao zP w x f:=fun w' st hk hw gK=>h w' st hk hw (hi st gK)
def ke(I:List dC)(L:Nat):aL->Prop
 | .nil=>True
 | .cons h t=>ke I L h/\ke I L t
 | .node k s n _ p _=>(k=1->∀x,placeOf I s n=some x->x.1<L)/\((8<=k/\k<=11/\L<I.length)\/ke I L p)
 | .query _ _ _ _ _=>True
def ke.all{I:List dC}{L:Nat}(h:I.length<=L):∀(t:aL),ke I L t
 | .nil=>trivial
 | .cons a b=>⟨ke.all h a,ke.all h b⟩
 | .node _ _ _ _ p _=>⟨fun _ _ aa=>e0 (EL aa).1 h,.inr (ke.all h p)⟩
 | .query _ _ _ _ _=>trivial
def po(I:List dC)(L:Nat)(ao:Bool)(st:az):Prop:=Fits ((I.map bO).take L) ao st/\(L<I.length->ao=true->st.bF=[])
def IP{bd:List bG}(dA : -1000000000000<=O)(er:O<=1000000000000)(he:I.length<=1000)(L:Nat):∀(n:Nat) (t:aL),cp t<=n->∀(w:World) (lo hi b:Nat) (fZ:az),aJ t 0->ke I L t->(dJ t=true->ao=true)->aM F w wb G bd O ao fZ->dK B w t I lo hi [M b]->p5 F wb G bd O ao (po I L ao) w (M b) (ca (I.map bO) O t):=by
 intro n;induction n with
 | zero=>
  intro t hs w lo hi b fZ R;cases t with
  | nil=>simp[aJ] at R
  | cons=>simp[aJ] at R
  | node=>simp[cp] at hs
  | query=>simp[aJ] at R
 | succ n aH=>
  intro t hs fI lo hi b asP R yB oA AA sN w st iS dl aj2;obtain⟨gK,Bb⟩:=aj2;have aj:=iS.qO AA sN;clear sN iS AA;cases t with
  | nil=>simp[aJ] at R
  | cons=>simp[aJ] at R
  | query=>simp[aJ] at R
  | node k s dQ v p U=>
   obtain⟨cs,co,xs,l1,m,A,bk,jy,an,n2⟩:=aj.parts;have bc:=(br A).1;have cM:=Z A bk;have aj3:=R;obtain⟨hv,X,aa⟩:=R;have xC:1<=k/\k<=11/\aJ p 3:=by
    rcases aa with⟨aa,ix,_⟩ | ⟨aa,_⟩ | ⟨aa,_⟩
    ·refine⟨r,r,ix⟩
    ·omega
    ·omega
   obtain⟨aI,L3,ix⟩:=xC;cases p with
   | node=>simp[aJ] at ix
   | query=>simp[aJ] at ix
   | nil=>
    have ak:arity k=0:=X.symm;have rm:k=1\/k=2\/k=3\/k=7:=by
     unfold arity at ak;split at ak
     ·cases ak
     ·split at ak
      ·cases ak
      ·omega
    rcases rm with rfl | rfl | rfl | rfl
    ·exact BD 174 1 (by simp) b _ w dl cM bc (aiz b s dQ v .nil U lo hi w dl aj gK.ad (yB.1 rfl))
    ·exact BD 175 2 (by simp) b _ w dl cM bc (aiD b 2 s dQ v .nil U lo hi w dl aj)
    ·exact BD 176 3 (by simp) b _ w dl cM bc (aiF b w)
    ·obtain rfl:ao=true:=oA (by rw[dJ];rfl);exact BD 180 7 (by simp) b _ w dl cM bc (aiH b w (gK.aG rfl).1.len)
   | cons a C=>
    have ff:cp (.node k s dQ v (.cons a C) U)=cp a+cp C+1+cp U+1:=rfl;have bf:aJ a 0/\aJ C 3:=by
     rcases ix with⟨_,h1,H⟩ | ⟨h,_⟩ | ⟨h,_⟩
     ·exact⟨h1,H⟩
     ·omega
     ·omega
    obtain⟨m2,aC,rs,rfl,Iv,E8⟩:=n2;obtain⟨hM,dF⟩:=Iv.qJ (jN bf.1 (.inl rfl));injection dF with dF _;subst dF;have IQ:dJ a=true->ao=true:=fun h=>oA (sH (by rw[dJ,h,Bool.true_or]));have eo:=fun ai=>aH a r w l1 m2 hM st bf.1 ai IQ dl Iv;cases C with
    | node=>have:=bf.2;simp[aJ] at this
    | query=>have:=bf.2;simp[aJ] at this
    | nil=>
     obtain⟨-,rfl⟩:=E8;have h1:arity k=1:=X.symm;have aj4:k=8\/k=9\/k=10\/k=11:=by
      unfold arity at h1;split at h1
      ·cases h1
      ·split at h1
       ·omega
       ·cases h1
     obtain rfl:ao=true:=oA (by rw[dJ,ax3 r,ax3 L3];rfl);obtain⟨dh,uw⟩:=gK.aG rfl;have gN:yA F wb G bd O w b st (iw (ca (I.map bO) O a) st.bF st).1 (iw (ca (I.map bO) O a) st.bF st).2:=fun W iN kP=>by
      have lq:=aiQ (ok:=fun hQ=>Fits ((I.map bO).take L) true hQ/\hQ.bF=st.bF) b co _ cs (ca (I.map bO) O a) W kP ⟨gK,rfl⟩ (iN.gg dl K K A) jy (iN.l3 dl K K an) dh.len (fun hQ hs c ai=>by
       obtain⟨c7,Y,VO,Hv⟩:=dh.fit c ai;have wP:=hs.1.ad.len;refine⟨⟨⟨hs.1.ad.swap VO Hv,hs.1.aG⟩,hs.2⟩,?_,uw c ai,?_⟩
       ·rw[wP,Hv.len,VO,cu];omega
       ·rw[wP,List.length_take,cZ];omega) (fun _ hQ hs=>by
       obtain⟨_,f2,f3,_⟩:=Co (I:=I.map bO) dA er bf.1 IQ hs.1;exact⟨f2,f3.trans hs.2⟩) (fun cy=>((eo (by
        rcases yB.2 with⟨_,_,aD⟩ | h
        ·exact absurd (Bb aD rfl) cy
        ·exact h.1)).later dl.lt iN).aj1 fun hQ hs=>⟨hs.1,fun aD oA=>by rw[hs.2];exact Bb aD oA⟩)
      refine lq.mono ?_;rintro e w' ⟨bp,rfl,h1,H,ab,_⟩;exact⟨bp,rfl,h1,H,ab⟩
     obtain⟨jH,k2,rk,mJ,tG⟩:=Tk (f:=ca (I.map bO) O a) (I:=(I.map bO).take L) (aG:=st.bF) (fun hQ h1 H=>by
      obtain⟨bz,cz,fP,mq⟩:=Co (I:=I.map bO) dA er bf.1 IQ (st:=hQ) ⟨h1,fun _=>by rw[H];exact⟨dh,uw⟩⟩;exact⟨bz,cz.ad,fP.trans H,mq⟩) st.bF st dh.fit gK.ad rfl
     have b7:(iw (ca (I.map bO) O a) st.bF st).1.length<=20000:=bX k2 dh.len;have eU:ca (I.map bO) O (.node k s dQ v (.cons a .nil) U) st=tX k (iw (ca (I.map bO) O a) st.bF st).1 (iw (ca (I.map bO) O a) st.bF st).2:=by rw[ca]
     rw[eU];generalize iw (ca (I.map bO) O a) st.bF st=cm at *;obtain⟨l,st2⟩:=cm;simp only[] at *;have later:∀W,aR wb G G w W->yA F wb G bd O W b st l st2:=fun W iN aU Ol=>gN aU (iN.trans dl.lt Ol);rcases aj4 with rfl | rfl | rfl | rfl
     ·exact BD 181 8 (by simp) b _ w dl cM bc (fun W iN kP=>ajI kP (later W iN) b7)
     ·cases l with
      | nil=>exact BD 182 9 (by simp) b _ w dl cM bc (fun W iN kP=>(Oi kP (later W iN)).1)
      | cons x C=>exact BD 182 9 (by simp) b _ w dl cM bc (fun W iN kP=>ajJ kP (later W iN) (by simp) b7 jH)
     ·cases l with
      | nil=>exact BD 183 10 (by simp) b _ w dl cM bc (fun W iN kP=>(Oi kP (later W iN)).2.1)
      | cons x C=>exact BD 183 10 (by simp) b _ w dl cM bc (fun W iN kP=>ajQ kP (later W iN) (by simp) b7)
     ·cases l with
      | nil=>exact BD 184 11 (by simp) b _ w dl cM bc (fun W iN kP=>(Oi kP (later W iN)).2.2)
      | cons x C=>exact BD 184 11 (by simp) b _ w dl cM bc (fun W iN kP=>ajR kP (later W iN) (by simp) b7)
    | cons a2 cA=>
     have ij:aJ a2 0/\aJ cA 3:=by
      rcases bf.2 with⟨_,h1,H⟩ | ⟨h,_⟩ | ⟨h,_⟩
      ·exact⟨h1,H⟩
      ·omega
      ·omega
     have eN:cA=.nil:=by have asQ:=MH k;have:dH (.cons a (.cons a2 cA))=dH cA+1+1:=rfl;exact T3 (qI ij.2 (.inl rfl)) r
     subst eN;obtain⟨m3,ci,Cp,rfl,y6,aj5⟩:=E8;obtain⟨-,rfl⟩:=aj5;obtain⟨hb,fT⟩:=y6.qJ (jN ij.1 (.inl rfl));injection fT with fT _;subst fT;have Tl:cp (.cons a2 .nil)=cp a2+0+1:=rfl;have VP:dJ a2=true->ao=true:=fun h=>oA (sH (by rw[dJ,dJ,h,Bool.true_or,Bool.or_true]));have wz:ke I L a/\ke I L a2:=by
      rcases yB.2 with⟨b5,_,_⟩ | h
      ·have H:arity k=2:=X.symm;unfold arity at H;split at H
       ·omega
       ·split at H<;>cases H
      ·exact⟨h.1,h.2.1⟩
     have eo:=eo wz.1;have dT:=aH a2 r w m2 m3 hb st ij.1 wz.2 VP dl y6;obtain⟨v1,f1,g1,-⟩:=Co (I:=I.map bO) dA er bf.1 IQ gK;obtain⟨v2,f2,-,-⟩:=Co (I:=I.map bO) dA er ij.1 VP f1;have aj6:k=4\/k=5\/k=6:=by
      have H:arity k=2:=X.symm;unfold arity at H;split at H
      ·omega
      ·split at H<;>cases H
     have bn:E5 F wb G bd O ao w b st (ca (I.map bO) O a st).1 (ca (I.map bO) O a2 (ca (I.map bO) O a st).2).1 (ca (I.map bO) O a2 (ca (I.map bO) O a st).2).2:=fun W iN kP=>ah8 (ok:=po I L ao) b co _ _ cs (ca (I.map bO) O a) (ca (I.map bO) O a2) W kP ⟨gK,Bb⟩ ⟨f1,fun x y=>by rw[g1];exact Bb x y⟩ (iN.gg dl K K A) jy (iN.l3 dl K K an) (eo.later dl.lt iN) (dT.later dl.lt iN);have later:∀W,aR wb G G w W->E5 F wb G bd O ao W b st (ca (I.map bO) O a st).1 (ca (I.map bO) O a2 (ca (I.map bO) O a st).2).1 (ca (I.map bO) O a2 (ca (I.map bO) O a st).2).2:=fun W iN aU Ol=>bn aU (iN.trans dl.lt Ol);rcases aj6 with rfl | rfl | rfl
     ·exact BD 177 4 (by simp) b _ w dl cM bc (fun W iN kP=>ais b _ _ W kP (later W iN) v1 v2)
     ·exact BD 178 5 (by simp) b _ w dl cM bc (fun W iN kP=>ait b _ _ W kP (later W iN) v1 v2)
     ·exact BD 179 6 (by simp) b _ w dl cM bc (fun W iN kP=>aiu b _ _ W kP (later W iN) v1 v2)
