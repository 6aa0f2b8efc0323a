import Derived.Test.YtkpddlaljibdoaaGreatDoorB040
set_option maxHeartbeats 20000000
set_option maxRecDepth 100000
set_option linter.all false
namespace Go.Proofs.YtkpddlaljibdoaaGreatDoor
open Tryz
open Go.RowKit Go.Sort Go.Shelf
open bS
variable{aB b base c c2 i lc cj n b9 pc pn bD aX:Nat}{W jx w:World}{v:Value}{out:List l7}{cs:Array Value}{t:aL}{F L:Nat->Prop}{j:qh}{a a2 b6 pa bt:Option Addr}{s:ni}{ts:e4}{td:List eb}{eH:ByteArray}{l:List n9}{m:Int}
def fW.set(h:fW base w v out){t:TypeId}(A:w.heap[b]?=some (.cells cs t (0,0)))(bM:t≠55)(b9:t≠9)(dm:t≠84)(i:Nat)(x:Value):fW base (w.setCell ⟨b,i,none⟩ x) v out:=by obtain⟨bE,h1,H,ab⟩:=h;exact⟨bE,vO h1 A bM,H,fun k a c=>⟨vO (ab k a c).1 A b9,vO (ab k a c).2 A dm⟩⟩
structure oP (w:World) (b:Nat) (cs:Array Value) (L:Nat->Prop) (j:qh) (v:Value) (out:List l7) (aB:Nat) (a a2:Option Addr) (n c b9 c2:Nat) (W:World):Prop where
 st:jC w b cs W
 at_:W.heap[aB]?=some (.cells #[.slice a n c,.slice a2 b9 c2,q (j.count:Int)] 67 (0,0))
 new:w.heap.size<=aB
 log:fB L W (.slice a n c) j.log
 Py:fB L W (.slice a2 b9 c2) j.ng
 XU:fW 0 W v out
def oP.laid(cv:jC w b cs W)(h1:fB L W (.slice a n c) j.log)(H:fB L W (.slice a2 b9 c2) j.ng)(ct:fW 0 W v out):oP w b cs L j v out W.heap.size a a2 n c b9 c2 (W.alloc (.cells #[.slice a n c,.slice a2 b9 c2,q (j.count:Int)] 67)):=by have A:=(Below.refl W.heap.size W).alloc ap (.cells #[.slice a n c,.slice a2 b9 c2,q (j.count:Int)] 67);exact⟨cv.below A,bH W _,cv.ho.size,h1.below A,H.below A,ct.below A⟩
def jC.set{dn:Array Value}{t:TypeId}(cv:jC w b cs W)(cr:W.heap[aB]?=some (.cells dn t (0,0)))(bM:t≠72)(b9:t≠32)(X:w.heap.size<=aB)(x:Value):jC w b cs (W.setCell ⟨aB,i,none⟩ x):=⟨cv.ho.setCell (p:=⟨aB,i,none⟩) X x,uI x cr cv.bQ bM,uI x cr cv.up b9⟩
def oP.yP(cv:jC w b cs W)(cr:W.heap[aB]?=some (.cells #[.slice none 0 0,.slice none 0 0,q 0] 67 (0,0)))(X:w.heap.size<=aB)(h1:fB L W (.slice a n c) j.log)(H:fB L W (.slice a2 b9 c2) j.ng)(ct:fW 0 W v out):oP w b cs L j v out aB a a2 n c b9 c2 (((W.setCell ⟨aB,0,none⟩ (.slice a n c)).setCell ⟨aB,1,none⟩ (.slice a2 b9 c2)).setCell ⟨aB,2,none⟩ (q (j.count:Int))):=by
 have aI:=hc (o:=0) cr (.slice a n c);have aZ:=hc (o:=1) aI (.slice a2 b9 c2);refine⟨((cv.set cr K K X _).set aI K K X _).set aZ K K X _,hc aZ _,X,?_,?_,?_⟩
 ·exact((h1.set cr K K _ _).set aI K K _ _).set aZ K K _ _
 ·exact((H.set cr K K _ _).set aI K K _ _).set aZ K K _ _
 ·exact((ct.set cr K K K _ _).set aI K K K _ _).set aZ K K K _ _
def oP.below{w:World}{b:Nat}{cs:Array Value}{L:Nat->Prop}{j:qh}{v:Value}{out:List l7}{aB:Nat}{a a2:Option Addr}{n c b9 c2:Nat}{W aU:World}(h:oP w b cs L j v out aB a a2 n c b9 c2 W)(A:Below W.heap.size W aU):oP w b cs L j v out aB a a2 n c b9 c2 aU:=⟨h.st.below A,Below.a8 A h.at_,h.new,h.log.below A,h.Py.below A,h.XU.below A⟩
def aow{c:Nat->Nat}{k:Nat}(b5:8<=w.heap.size)(aw:∀k,F k->oN w k/\8<=k)(h1:h2 (eT F c 0) w b ⟨.slice b6 cj lc,.slice bt aX bD,q (s.ce.count:Int),.slice pa pn pc,q (s.last:Int)⟩ s.ck)(aK:eg (eT F c 2) w 103 5 (.slice pa pn pc) s.nj.length (s.nj.flatMap xi))(bi:oP w b cs (db (eT F c 1) w) j v out aB a a2 n k b9 c2 W):fW 0 (((((W.setCell ⟨b,1,none⟩ (.slice a n k)).setCell ⟨b,2,none⟩ (.slice a2 b9 c2)).setCell ⟨b,3,none⟩ (q (j.count:Int))).setCell ⟨w.heap.size,0,none⟩ v).setCell ⟨w.heap.size,1,none⟩ (q 0)) v out/\vE F w b {s with ce:=j} (((((W.setCell ⟨b,1,none⟩ (.slice a n k)).setCell ⟨b,2,none⟩ (.slice a2 b9 c2)).setCell ⟨b,3,none⟩ (q (j.count:Int))).setCell ⟨w.heap.size,0,none⟩ v).setCell ⟨w.heap.size,1,none⟩ (q 0)):=by
 have A:=bi.st.ho;have Pz:F b/\c b=0:=by obtain⟨e7,aE,bs,_,bw,_⟩:=id h1;exact bw.1.1
 have bc:b<w.heap.size:=by obtain⟨⟨cs,t,m,e,_⟩,_⟩:=aw b Pz.1;exact jq e
 have c7:=bi.st.bQ;have c3:=bi.st.up;have Y:=hc (o:=1) c7 (.slice a n k);have am:=hc (o:=2) Y (.slice a2 b9 c2);have cX:((W.setCell ⟨b,1,none⟩ (.slice a n k)).setCell ⟨b,2,none⟩ (.slice a2 b9 c2)).setCell ⟨b,3,none⟩ (q (j.count:Int)) |>.heap[w.heap.size]?=some (.cells #[.slice none 0 0,q 0] 32 (0,0)):=uI _ am (uI _ Y (uI _ c7 c3 K) K) K;have cA:=hc (o:=0) cX v;refine⟨((((bi.XU.set c7 K K K _ _).set Y K K K _ _).set am K K K _ _).set cX K K K _ _).set cA K K K _ _,?_⟩;have aox:fB (db (eT F c 1) w) _ (.slice a n k) j.log:=((((bi.log.set c7 K K 1 (.slice a n k)).set Y K K 2 (.slice a2 b9 c2)).set am K K 3 (q (j.count:Int))).set cX K K 0 v).set cA K K 1 (q 0)
 have aoy:fB (db (eT F c 1) w) _ (.slice a2 b9 c2) j.ng:=((((bi.Py.set c7 K K 1 (.slice a n k)).set Y K K 2 (.slice a2 b9 c2)).set am K K 3 (q (j.count:Int))).set cX K K 0 v).set cA K K 1 (q 0);obtain⟨eU,iu⟩:=(h1.move (F':=eT F c 0) (fun k hk av=>⟨av,A.block k hk⟩)).anz (.slice a n k) (.slice a2 b9 c2) (q (j.count:Int));generalize qc:((W.setCell ⟨b,1,none⟩ (.slice a n k)).setCell ⟨b,2,none⟩ (.slice a2 b9 c2)).setCell ⟨b,3,none⟩ (q (j.count:Int))=dB at *;have qQ:da (fun U=>U=w.heap.size) dB (dB.setCell ⟨w.heap.size,0,none⟩ v):=da.set _ 0 _ rfl;have k3:da (fun U=>U=w.heap.size) (dB.setCell ⟨w.heap.size,0,none⟩ v) ((dB.setCell ⟨w.heap.size,0,none⟩ v).setCell ⟨w.heap.size,1,none⟩ (q 0)):=da.set _ 1 _ rfl;have vp:=qQ.trans' k3 (fun _ _ e=>e)
 generalize (dB.setCell ⟨w.heap.size,0,none⟩ v).setCell ⟨w.heap.size,1,none⟩ (q 0)=jx at *;have yv:W.heap.size<=dB.heap.size:=iu.size;have Iy:∀U,U<w.heap.size->U≠b->jx.heap[U]?=w.heap[U]?:=fun U ae ar=>by have H:U<W.heap.size:=e0 ae A.size;rw[vp.block U (e0 H yv) (fun e=>r),iu.block U H ar,A.block U ae]
 have aoz:h2 (eT F c 0) jx b _ s.ck:=eU.move (fun U ae av=>⟨av,vp.block U ae (fun e=>by
  obtain⟨⟨cs,t,m,bo,_⟩,_⟩:=aw U av.1;have:=jq bo;omega)⟩)
 have aoA:eg (eT F c 2) jx 103 5 (.slice pa pn pc) s.nj.length (s.nj.flatMap xi):=aK.move (fun U ae av=>⟨av,Iy U ae (fun e=>by
  have:=av.2;rw[e,Pz.2] at this;cases this)⟩)
 refine⟨fun U=>db F w U/\oN jx U,⟨fun U ae=>⟨ae.2,?_⟩,va c w 1,a,a2,pa,n,k,b9,c2,pn,pc,?_,?_,?_,?_⟩,fun U ae=>?_,⟨vp.os.trans (iu.os.trans A.os),vp.tape.trans (iu.tape.trans A.tape),vp.output.trans (iu.output.trans A.output),bX A.size (bX yv vp.size),fun U ae ar=>Iy U ae (fun e=>ar (e▸Pz.1))⟩⟩
 ·rcases ae.1 with⟨_,h⟩ | h
  ·exact(aw U h).2
  ·omega
 ·refine aoz.jW.move (dj.to fun U _ ae=>?_);have jz:U<w.heap.size:=by obtain⟨⟨cs,t,m,bo,_⟩,_⟩:=aw U ae.1.1;exact jq bo
  exact⟨⟨db.fH jz ae.1.1,ae.2⟩,by unfold va;rw[if_pos jz];exact ae.1.2⟩
 ·exact aox.jW.move (dj.to fun U _ ae=>⟨⟨(zL ae.1).1,ae.2⟩,(zL ae.1).2⟩)
 ·exact aoy.jW.move (dj.to fun U _ ae=>⟨⟨(zL ae.1).1,ae.2⟩,(zL ae.1).2⟩)
 ·refine(aoA.jW (by simp[oM])).move (dj.to fun U _ ae=>?_);have jz:U<w.heap.size:=by obtain⟨⟨cs,t,m,bo,_⟩,_⟩:=aw U ae.1.1;exact jq bo
  exact⟨⟨db.fH jz ae.1.1,ae.2⟩,by unfold va;rw[if_pos jz];exact ae.1.2⟩
 ·rcases ae.1 with⟨_,h⟩ | h
  ·exact .inl h
  ·exact .inr h
def JA(F:Nat->Prop)(w:World)(b:Nat)(C:XH)(e:Ending)(w':World):Prop:=∃a n c,e=.returned (.tuple #[.agg #[.slice a n c,q (C.Jt:Int)],q (C.qk:Int)])/\fW 0 w' (.slice a n c) C.out/\vE F w b C.FX w'
def vE.same{w':World}(h:nH F w b s)(A:Below w.heap.size w w'):vE F w b s w':=⟨F,h.aside (G:=fun _=>False) ⟨A.os,A.tape,A.output,A.size,fun k hk _=>A.block k hk⟩ (fun _ _=>id),fun k hk=>.inl hk,⟨A.os,A.tape,A.output,A.size,fun k hk _=>A.block k hk⟩⟩
def aoB(w:World):fW 0 w (.slice none 0 0) []:=⟨[],World.ownsRow_nil _ _ _ _,rfl,fun i h=>absurd h (fp _)⟩
def aoC{s:ByteArray}(h:hC s=some (ts,t)):ts.length<=400:=by
 unfold hC at h;split at h
 ·rename_i aK;obtain⟨l,h1,h⟩:=aV h;obtain⟨x,H,h⟩:=aV h;split at h
  ·injection h with h;injection h with Y am;subst Y;have:=MY (s:=s) (ts:=l.map fun x=>(⟨x.toArray⟩:ByteArray)) (by
    rw[h1,List.map_map];congr 1;conv=>lhs;rw[<-List.map_id l]
    exact List.map_congr_left (fun t _=>by simp))
   omega
  ·cases h
 ·cases h
def PA(ae:hN td eH=0)(ag:hC eH=some (ts,t)):aJ t 2/\mr t/\3*nq t<=900/\(∃e wh g hv,t=.query e (eM t) wh g hv)/\(eM t).length<=3:=by
 obtain⟨ko,mW⟩:=Xn (aoC ag) (Pq ag);have ut:pj td t=0:=by
  unfold hN at ae;split at ae
  ·rename_i h;exact absurd ae h
  ·rw[ag] at ae;exact ae
 have ou:eh td [] t=true/\h6 t=false:=by
  unfold pj at ut;split at ut
  ·rename_i h;refine⟨h,?_⟩;split at ut
   ·cases ut
   ·rename_i H;simpa using H
  ·cases ut
 refine⟨ko,yO t 2 [] ko ou.1 ou.2,by have lq:2*nq t<=400:=mW;omega,?_⟩;cases t with
 | query e V wh g hv=>refine⟨⟨e,wh,g,hv,rfl⟩,?_⟩;have:=ou.1;rw[eh,Bool.and_eq_true] at this;exact of_decide_eq_true this.1
 | nil=>simp[aJ] at ko
 | cons=>simp[aJ] at ko
 | node=>simp[aJ] at ko
def q_in{bd:List bG}{O:Int}{lo hi x:Nat}{aE:Value}(ae:hN td eH=0)(ag:hC eH=some (ts,t))(hrel:oJ td bd)(wS:nW bd)(bM : -1000000000000<=O)(b9:O<=1000000000000)(aj:dK td W t [] lo hi [M x])(au:p3 F W aE bd)(R:Ground W):uG (fun k=>k<W.heap.size) td bd O t lo hi x aE W:=by obtain⟨h1,H,ab,_⟩:=PA ae ag;exact⟨wS,hrel,bM,b9,h1,H,ab,R.vC.lt,R.vC,aj,au.inside,fun k hk=>hk⟩
def apq(s:ni)(cU eH:ByteArray)(j:qh):Prop:=∃td ts t out,oJ td s.ck.bY/\hN td eH=0/\hC eH=some (ts,t)/\oK s.ck.bY s.ck.dS (eM t) t=some out/\s.ce.count<60/\jf cU.data.toList=true/\j=nh cU s.ck.dS (hj (out.map (·.2))) s.ce
def XV{N:Nat}(f:qh->n9->Bool)(h:nH F w b s)(ok:hA N s.ck)(fit:lw s.ck)(dh:Ground w)(cU eH:ByteArray)(hu:cU.size<=1000000)(oE:s.ce.log.length<=10000)(kv:s.ce.ng.length<=800000)(wq:s.ce.count<=1000000)(mn:s.nj.length<=1000)(hF:∀p∈s.nj,∀(W:World) (b6 bt hM:Option Addr) (cj lc aX bD CM nd:Nat) (uf:qh),Below w.heap.size w W->fB (fun k=>k<W.heap.size) W (.slice b6 cj lc) uf.log->fB (fun k=>k<W.heap.size) W (.slice bt aX bD) uf.ng->p3 (fun k=>k<W.heap.size) W (.slice hM CM nd) s.ck.bY->apq s cU eH uf->ey 64 #[Xu p,.agg #[.slice b6 cj lc,.slice bt aX bD,q (uf.count:Int)],.slice hM CM nd,q s.ck.dS] W fun e w'=>e=.returned (.bool (f uf p))/\Below W.heap.size W w'):ey 9 #[M b,.string cU,.string eH] w (JA F w b (gE f s cU eH)):=by
 have b5:=dh.uJ.js;have nv:Hid (∀W (oC xk:Nat),Below w.heap.size w W->JA F w b ⟨oC,xk,[],s⟩ (.returned (.tuple #[.agg #[.slice none 0 0,q (xk:Int)],q (oC:Int)])) W):=u (fun W oC xk A=>⟨none,0,0,rfl,aoB W,vE.same h A⟩);obtain⟨aw,c,b6,bt,pa,cj,lc,aX,bD,pn,pc,h1,H,ab,aK⟩:=id h;obtain⟨aE,rh,aoD,lX⟩:=h1.bd ok;obtain⟨td,CR,hrel⟩:=lX.B (fun t au=>(ok.B t au).gp);obtain⟨aC,c6,bA,rfl⟩:∃aC c6 bA,aE=.slice aC c6 bA:=by obtain⟨bs,_,C,_⟩:=lX;obtain⟨a,c,e⟩:=cG C.1;exact⟨a,_,c,e⟩
 have bc:=jq rh;have iD:Below w.heap.size w (w.alloc (.cells #[.slice none 0 0,q 0] 32)):=cT;have sF:jC w b #[.slice aC c6 bA,.slice b6 cj lc,.slice bt aX bD,q (s.ce.count:Int),.slice pa pn pc,q (s.last:Int),q s.ck.dS] (w.alloc (.cells #[.slice none 0 0,q 0] 32)):=⟨iD,oL _ rh,bH w _⟩;have xl:Hid (∀W,ey 28 #[.string cU] W fun e w'=>e=.returned (.bool (jf cU.data.toList))/\W=w'):=u (fun W=>Kf cU W (bX hu K));have AP:Hid (ey 29 #[M b,.string eH] (w.alloc (.cells #[.slice none 0 0,q 0] 32)) (Xo td eH (w.alloc (.cells #[.slice none 0 0,q 0] 32)))):=u (am8 eH td b aC c6 bA _ (dh.below iD).uJ (Z sF.bQ (i:=0) rfl) (jq sF.bQ) ⟨_,sF.bQ⟩ (CR.heap iD));have sZ:Hid (hN (pq s.ck.bY) eH=hN td eH):=u (anp hrel eH).symm
 have AQ:=u sF;have my:=u iD;unfold gE;rw[sZ.out];by_cases fF:cU.data.toList=[]\/jf cU.data.toList=false
 ·rw[if_pos fF];have bK:=u (nv.out _ 9 0 iD);clear nv h h1 H ab aK aw lX CR hrel rh sF AP AQ my hF ok fit dh sZ iD;by_cases qq:cU.data.toList=[]
  ·obtain rfl:cU=⟨#[]⟩:=ZX qq;go_enter func9,ntmps9;go_wp2_with (go_at_call 28;refine(xl.out _).mono ?_;rintro e w' ⟨rfl,rfl⟩);refine bodyPost_ret (v:=.tuple #[.agg #[.slice none 0 0,q 0],q 9]) (by simp[results,results9,go_sem, *]) rfl bK.out
  ·have hw:jf cU.data.toList=false:=by rcases fF with h | h;exact absurd h qq;exact h
   have xx:cU.toList.isEmpty=false:=by
    rw[ByteArray.toList_eq];cases X:cU.data.toList with
    | nil=>exact absurd X qq
    | cons a C=>rfl
   have QA:¬cU.toList=[]:=by intro e;rw[e] at xx;cases xx
   rw[hw] at xl;clear fF hw qq;go_enter func9,ntmps9;go_wp2_with (go_at_call 28;refine(xl.out _).mono ?_;rintro e w' ⟨rfl,rfl⟩);refine bodyPost_ret (v:=.tuple #[.agg #[.slice none 0 0,q 0],q 9]) (by simp[results,results9,go_sem, *]) rfl bK.out
 ·rw[if_neg fF];have hw:jf cU.data.toList=true:=by
   cases aa:jf cU.data.toList with
   | true=>rfl
   | false=>exact absurd (.inr aa) fF
  have qq:¬cU.data.toList=[]:=fun e=>fF (.inl e);have xx:cU.toList.isEmpty=false:=by
   rw[ByteArray.toList_eq];cases X:cU.data.toList with
   | nil=>exact absurd X qq
   | cons a C=>rfl
  have QA:¬cU.toList=[]:=by intro e;rw[e] at xx;cases xx
  rw[hw] at xl;have wt:Hid (∀W (oC xk:Nat),Below w.heap.size w W->JA F w b ⟨oC,xk,[],s⟩ (.returned (.tuple #[.agg #[.slice none 0 0,q (xk:Int)],q (oC:Int)])) ((W.setCell ⟨w.heap.size,0,none⟩ (.slice none 0 0)).setCell ⟨w.heap.size,1,none⟩ (q (xk:Int)))):=u (fun W oC xk A=>nv.out _ oC xk ((A.setCell (p:=⟨w.heap.size,0,none⟩) ap _).setCell (p:=⟨w.heap.size,1,none⟩) ap _));have yS:Hid (∀W,jC w b #[.slice aC c6 bA,.slice b6 cj lc,.slice bt aX bD,q (s.ce.count:Int),.slice pa pn pc,q (s.last:Int),q s.ck.dS] W->(dp W w.heap.size 0=some (.slice none 0 0)/\dp W w.heap.size 1=some (q 0))/\(W.frozen? ⟨w.heap.size,0,none⟩=false/\W.frozen? ⟨w.heap.size,1,none⟩=false)):=u (fun W cv=>⟨⟨Z cv.up (i:=0) rfl,Z cv.up (i:=1) rfl⟩,⟨aQ cv.up,aQ cv.up⟩⟩)
  by_cases AR:hN td eH≠0
  ·rw[if_pos AR];have FB:((hN td eH:Int)==0)=false:=by rw[cV];omega
   have kL:¬(hN td eH:Int)=0:=r;have cK:Hid (ey 29 #[M b,.string eH] (w.alloc (.cells #[.slice none 0 0,q 0] 32)) fun e J=>∃rS,e=.returned (.tuple #[rS,q (hN td eH:Int)])/\((dp J w.heap.size 0=some (.slice none 0 0)/\dp J w.heap.size 1=some (q 0))/\(J.frozen? ⟨w.heap.size,0,none⟩=false/\J.frozen? ⟨w.heap.size,1,none⟩=false))/\Hid (Below w.heap.size w J)):=u (AP.out.mono (by
    rintro e J ⟨bJ,rS,rfl,-⟩;have cv:=AQ.out.below bJ;exact⟨rS,rfl,yS.out J cv,u cv.ho⟩))
   clear nv h h1 H ab aK aw lX CR hrel rh sF AP AQ my hF ok fit dh sZ iD fF hw qq yS AR;generalize hN td eH=Q at *;go_enter func9,ntmps9;go_wp2_with (first | (go_at_call 29;refine cK.out.mono ?_;rintro e J ⟨rS,rfl,⟨⟨c3,cX⟩,⟨cA,hy⟩⟩,bw⟩) | (go_at_call 28;refine(xl.out _).mono ?_;rintro e w' ⟨rfl,rfl⟩));refine bodyPost_ret (v:=.tuple #[.agg #[.slice none 0 0,q 0],q (Q:Int)]) (by simp[results,results9,go_sem, *]) rfl (wt.out J Q 0 bw.out)
  ·rw[if_neg AR];have vG:hN td eH=0:=by simpa using AR
   obtain⟨ts,t,r4⟩:∃ts t,hC eH=some (ts,t):=by
    cases aa:hC eH with
    | none=>
     have:kq eH [0]=1:=by unfold kq;rw[aa]
     unfold hN at vG;rw[if_pos (by rw[this];decide),this] at vG;cases vG
    | some x=>exact⟨x.1,x.2,rfl⟩
   rw[r4];simp only[];have cK:Hid (ey 29 #[M b,.string eH] (w.alloc (.cells #[.slice none 0 0,q 0] 32)) fun e J=>∃x,e=.returned (.tuple #[M x,q 0])/\(dp J b 0=some (.slice aC c6 bA)/\dp J b 1=some (.slice b6 cj lc)/\dp J b 2=some (.slice bt aX bD)/\dp J b 3=some (q (s.ce.count:Int))/\dp J b 6=some (q s.ck.dS))/\Hid (jC w b #[.slice aC c6 bA,.slice b6 cj lc,.slice bt aX bD,q (s.ce.count:Int),.slice pa pn pc,q (s.last:Int),q s.ck.dS] J/\Ground J/\∃lo hi,uG (fun k=>k<J.heap.size) td s.ck.bY s.ck.dS t lo hi x (.slice aC c6 bA) J)):=u (AP.out.mono (by
    rintro e J ⟨bJ,rS,rfl,aa⟩;obtain⟨atq,e6,x,lo,hi,Y,am,_,rfl,aj⟩:=aa vG;rw[r4] at Y;injection Y with Y;injection Y with Y bm;subst Y bm;have cv:=AQ.out.below bJ;have uw:=dh.below cv.ho;have ae:=q_in vG r4 hrel (fit.B ok) (by have:=ok.zN;omega) ok.ya aj (lX.move (fun k hk av=>⟨av,cv.ho.block k hk⟩)) uw;exact⟨x,by rw[vG];rfl,⟨Z cv.bQ (i:=0) rfl,Z cv.bQ (i:=1) rfl,Z cv.bQ (i:=2) rfl,Z cv.bQ (i:=3) rfl,Z cv.bQ (i:=6) rfl⟩,u ⟨cv,uw,lo,hi,ae⟩⟩))
   obtain⟨ko,CS,_,⟨aoE,aoF,aoG,aoH,r7⟩,iu⟩:=PA vG r4;have vH:Hid (∀W,jC w b #[.slice aC c6 bA,.slice b6 cj lc,.slice bt aX bD,q (s.ce.count:Int),.slice pa pn pc,q (s.last:Int),q s.ck.dS] W->(dp W b 0=some (.slice aC c6 bA)/\dp W b 1=some (.slice b6 cj lc)/\dp W b 2=some (.slice bt aX bD)/\dp W b 3=some (q (s.ce.count:Int))/\dp W b 6=some (q s.ck.dS))):=u (fun W cv=>⟨Z cv.bQ (i:=0) rfl,Z cv.bQ (i:=1) rfl,Z cv.bQ (i:=2) rfl,Z cv.bQ (i:=3) rfl,Z cv.bQ (i:=6) rfl⟩)
   have xj:Hid (∀J x,jC w b #[.slice aC c6 bA,.slice b6 cj lc,.slice bt aX bD,q (s.ce.count:Int),.slice pa pn pc,q (s.last:Int),q s.ck.dS] J->(∃lo hi,uG (fun k=>k<J.heap.size) td s.ck.bY s.ck.dS t lo hi x (.slice aC c6 bA) J)->ey 30 #[M x,.slice aC c6 bA,q s.ck.dS] J.drew fun e S=>jC w b #[.slice aC c6 bA,.slice b6 cj lc,.slice bt aX bD,q (s.ce.count:Int),.slice pa pn pc,q (s.last:Int),q s.ck.dS] S/\match oK s.ck.bY s.ck.dS (eM t) t with
     | none=>e=.returned (.tuple #[.slice none 0 0,.bool false])
     | some out=>∃v,e=.returned (.tuple #[v,.bool true])/\fW 0 S v out):=u (fun J x cv ik=>by
    obtain⟨lo,hi,ik⟩:=ik;have vz:Below J.heap.size J J.drew:=⟨rfl,rfl,rfl,ap,fun _ _=>rfl⟩;have XW:=ik.below vz;rw[r7] at XW;have b1:=amP J.drew XW;rw[<-r7] at b1;refine b1.mono ?_;rintro e S ⟨A,hm⟩;refine⟨(cv.below vz).below A,?_⟩;cases xm:oK s.ck.bY s.ck.dS (eM t) t with
    | none=>rw[xm] at hm;exact hm
    | some out=>rw[xm] at hm;obtain⟨v,Y,am⟩:=hm;exact⟨v,Y,am.low bu⟩)
   cases xm:oK s.ck.bY s.ck.dS (eM t) t with
   | none=>
    rw[xm] at xj;have gJ:Hid (∀J x,jC w b #[.slice aC c6 bA,.slice b6 cj lc,.slice bt aX bD,q (s.ce.count:Int),.slice pa pn pc,q (s.last:Int),q s.ck.dS] J->(∃lo hi,uG (fun k=>k<J.heap.size) td s.ck.bY s.ck.dS t lo hi x (.slice aC c6 bA) J)->ey 30 #[M x,.slice aC c6 bA,q s.ck.dS] J.drew fun e S=>e=.returned (.tuple #[.slice none 0 0,.bool false])/\(dp S b 0=some (.slice aC c6 bA)/\dp S b 1=some (.slice b6 cj lc)/\dp S b 2=some (.slice bt aX bD)/\dp S b 3=some (q (s.ce.count:Int))/\dp S b 6=some (q s.ck.dS))/\((dp S w.heap.size 0=some (.slice none 0 0)/\dp S w.heap.size 1=some (q 0))/\(S.frozen? ⟨w.heap.size,0,none⟩=false/\S.frozen? ⟨w.heap.size,1,none⟩=false))/\Hid (Below w.heap.size w S)):=u (fun J x cv ik=>(xj.out J x cv ik).mono (by
     rintro e S ⟨r8,rfl⟩;exact⟨rfl,vH.out S r8,yS.out S r8,u r8.ho⟩))
    clear nv h h1 H ab aK aw lX CR hrel rh sF AP AQ my hF ok fit dh sZ iD fF hw qq yS AR vH xj xm r7 ko CS r4 vG;simp only[];generalize s.ck.dS=r5 at *;go_enter func9,ntmps9;go_upto_region 6 with(first | (go_at_call 29;refine cK.out.mono ?_;rintro e J ⟨x,rfl,⟨a0,bq,a2,a3,a4⟩,jd⟩) | (go_at_call 28;refine(xl.out _).mono ?_;rintro e w' ⟨rfl,rfl⟩));go_region_held3 (fun w'=>w'.cell? ⟨b,0,none⟩=some (.slice aC c6 bA)/\w'.cell? ⟨b,1,none⟩=some (.slice b6 cj lc)/\w'.cell? ⟨b,2,none⟩=some (.slice bt aX bD)/\w'.cell? ⟨b,3,none⟩=some (q (s.ce.count:Int))/\w'.cell? ⟨b,6,none⟩=some (q r5)) (go_keep) (first | (go_at_call 30;refine(gJ.out J x jd.out.1 jd.out.2.2).mono ?_;rintro e S ⟨rfl,⟨hr,cN,bL,fS,jg⟩,⟨⟨c3,cX⟩,⟨cA,hy⟩⟩,bw⟩));all_goals go_wp2_with fail
    all_goals refine bodyPost_ret (v:=.tuple #[.agg #[.slice none 0 0,q 0],q 6]) (by simp[results,results9,go_sem, *]) rfl (wt.out S 6 0 bw.out)
   | some out=>
    rw[xm] at xj;simp only[] at xj ⊢;have gJ:Hid (∀J x,jC w b #[.slice aC c6 bA,.slice b6 cj lc,.slice bt aX bD,q (s.ce.count:Int),.slice pa pn pc,q (s.last:Int),q s.ck.dS] J->(∃lo hi,uG (fun k=>k<J.heap.size) td s.ck.bY s.ck.dS t lo hi x (.slice aC c6 bA) J)->ey 30 #[M x,.slice aC c6 bA,q s.ck.dS] J.drew fun e S=>∃dc on de,e=.returned (.tuple #[.slice dc on de,.bool true])/\(dp S b 0=some (.slice aC c6 bA)/\dp S b 1=some (.slice b6 cj lc)/\dp S b 2=some (.slice bt aX bD)/\dp S b 3=some (q (s.ce.count:Int))/\dp S b 6=some (q s.ck.dS))/\Hid (jC w b #[.slice aC c6 bA,.slice b6 cj lc,.slice bt aX bD,q (s.ce.count:Int),.slice pa pn pc,q (s.last:Int),q s.ck.dS] S/\fW 0 S (.slice dc on de) out)):=u (fun J x cv ik=>(xj.out J x cv ik).mono (by
     rintro e S ⟨r8,v,rfl,ct⟩;obtain⟨dc,on,de,rfl⟩:∃dc on de,v=.slice dc on de:=by obtain⟨bE,C,_⟩:=id ct;obtain⟨a,c,e⟩:=cG C;exact⟨a,_,c,e⟩
     exact⟨dc,on,de,rfl,vH.out S r8,u ⟨r8,ct⟩⟩))
    have lg:Hid (∀W,jC w b #[.slice aC c6 bA,.slice b6 cj lc,.slice bt aX bD,q (s.ce.count:Int),.slice pa pn pc,q (s.last:Int),q s.ck.dS] W->ey 27 #[.agg #[.slice b6 cj lc,.slice bt aX bD,q (s.ce.count:Int)]] W fun e aA=>e=.returned (q (s.ce.count:Int))/\(dp aA b 0=some (.slice aC c6 bA)/\dp aA b 1=some (.slice b6 cj lc)/\dp aA b 2=some (.slice bt aX bD)/\dp aA b 3=some (q (s.ce.count:Int))/\dp aA b 6=some (q s.ck.dS))/\((dp aA w.heap.size 0=some (.slice none 0 0)/\dp aA w.heap.size 1=some (q 0))/\(aA.frozen? ⟨w.heap.size,0,none⟩=false/\aA.frozen? ⟨w.heap.size,1,none⟩=false))/\Hid (jC w b #[.slice aC c6 bA,.slice b6 cj lc,.slice bt aX bD,q (s.ce.count:Int),.slice pa pn pc,q (s.last:Int),q s.ck.dS] aA/\Below W.heap.size W aA)):=u (fun W cv=>(ank b6 bt cj lc aX bD _ W).mono (by
     rintro e aA ⟨rfl,A⟩;have uz:=cv.below A;exact⟨rfl,vH.out aA uz,yS.out aA uz,u ⟨uz,A⟩⟩))
    by_cases PB:60<=s.ce.count
    ·rw[if_pos PB];have aoI:(60:Int)<=(s.ce.count:Int):=r;clear nv h h1 H ab aK aw lX CR hrel rh sF AP AQ my hF ok fit dh sZ iD fF hw qq yS AR vH xj xm r7 ko CS r4 vG;generalize s.ck.dS=r5 at *;go_enter func9,ntmps9;go_upto_region 6 with(first | (go_at_call 29;refine cK.out.mono ?_;rintro e J ⟨x,rfl,⟨a0,bq,a2,a3,a4⟩,jd⟩) | (go_at_call 28;refine(xl.out _).mono ?_;rintro e w' ⟨rfl,rfl⟩));go_region_held3 (fun w'=>w'.cell? ⟨b,0,none⟩=some (.slice aC c6 bA)/\w'.cell? ⟨b,1,none⟩=some (.slice b6 cj lc)/\w'.cell? ⟨b,2,none⟩=some (.slice bt aX bD)/\w'.cell? ⟨b,3,none⟩=some (q (s.ce.count:Int))/\w'.cell? ⟨b,6,none⟩=some (q r5)) (go_keep) (first | (go_at_call 30;refine(gJ.out J x jd.out.1 jd.out.2.2).mono ?_;rintro e S ⟨dc,on,de,rfl,⟨hr,cN,bL,fS,jg⟩,kh⟩))
     all_goals go_wp2_with (go_at_call 27;refine(lg.out S kh.out.1).mono ?_;rintro e aA ⟨rfl,⟨d0,d1,d2,d3,d4⟩,⟨⟨c3,cX⟩,⟨cA,hy⟩⟩,oO⟩)
     all_goals refine bodyPost_ret (v:=.tuple #[.agg #[.slice none 0 0,q 0],q 7]) (by simp[results,results9,go_sem, *]) rfl (wt.out aA 7 0 oO.out.1.ho)
    ·rw[if_neg PB];have aoI:(s.ce.count:Int)<60:=r;have dA : -1000000000000<=s.ck.dS:=by have:=ok.zN;omega
     obtain⟨aoJ,aoK,aoL⟩:=XG (fit.B ok) dA ok.ya (e:=aoE) (wh:=aoF) (g:=aoG) (hv:=aoH) (V:=eM t) (by rw[<-r7];exact ko) (by rw[<-r7];exact CS) iu (by rw[<-r7];exact xm);obtain⟨lH,vu⟩:∃lH,lH=nh cU s.ck.dS (hj (out.map (·.2))) s.ce:=⟨_,rfl⟩;have XX:lH.count=s.ce.count+1:=by rw[vu];rfl
     rw[<-vu]
     have XY:Hid (∀W dc on de,jC w b #[.slice aC c6 bA,.slice b6 cj lc,.slice bt aX bD,q (s.ce.count:Int),.slice pa pn pc,q (s.last:Int),q s.ck.dS] W->fW 0 W (.slice dc on de) out->ey 32 #[.slice dc on de] W fun e bI=>∃uK un vF,e=.returned (.slice uK un vF)/\(dp bI b 0=some (.slice aC c6 bA)/\dp bI b 1=some (.slice b6 cj lc)/\dp bI b 2=some (.slice bt aX bD)/\dp bI b 3=some (q (s.ce.count:Int))/\dp bI b 6=some (q s.ck.dS))/\(¬b=bI.heap.size/\¬bI.heap.size=b)/\((∀aB i,aB<W.heap.size->dp bI aB i=dp W aB i)/\∀aB i,aB<W.heap.size->bI.frozen? ⟨aB,i,none⟩=W.frozen? ⟨aB,i,none⟩)/\Hid (Below W.heap.size W bI/\jC w b #[.slice aC c6 bA,.slice b6 cj lc,.slice bt aX bD,q (s.ce.count:Int),.slice pa pn pc,q (s.last:Int),q s.ck.dS] bI/\fW 0 bI (.slice dc on de) out/\bI.ownsRow 0 84 2 (.slice uK un vF) (hj (out.map (·.2))).length ((hj (out.map (·.2))).flatMap dX))):=u (fun W dc on de cv ct=>(anb _ out 0 W ct r r).mono (by
      rintro e bI ⟨bp,rfl,ag,A⟩;obtain⟨uK,vF,rfl⟩:=cG ag;have qd:=cv.below A;have X:=jq qd.bQ;have nu:=jq qd.up;exact⟨uK,_,vF,rfl,vH.out bI qd,⟨r,r⟩,CP A,u ⟨A,qd,ct.below A,ei bu ag⟩⟩))
     have XZ:Hid (∀W uK un vF dc on de,jC w b #[.slice aC c6 bA,.slice b6 cj lc,.slice bt aX bD,q (s.ce.count:Int),.slice pa pn pc,q (s.last:Int),q s.ck.dS] W->fW 0 W (.slice dc on de) out->W.ownsRow 0 84 2 (.slice uK un vF) (hj (out.map (·.2))).length ((hj (out.map (·.2))).flatMap dX)->ey 31 #[.agg #[.slice b6 cj lc,.slice bt aX bD,q (s.ce.count:Int)],.string cU,q s.ck.dS,.slice uK un vF] W fun e bh=>∃a n k a2 b9 aZ,e=.returned (.agg #[.slice a n k,.slice a2 b9 aZ,q (lH.count:Int)])/\(dp bh b 0=some (.slice aC c6 bA)/\dp bh b 1=some (.slice b6 cj lc)/\dp bh b 2=some (.slice bt aX bD)/\dp bh b 3=some (q (s.ce.count:Int))/\dp bh b 6=some (q s.ck.dS))/\(¬b=bh.heap.size/\¬bh.heap.size=b)/\((∀aB i,aB<W.heap.size->dp bh aB i=dp W aB i)/\∀aB i,aB<W.heap.size->bh.frozen? ⟨aB,i,none⟩=W.frozen? ⟨aB,i,none⟩)/\Hid (Below W.heap.size W bh/\jC w b #[.slice aC c6 bA,.slice b6 cj lc,.slice bt aX bD,q (s.ce.count:Int),.slice pa pn pc,q (s.last:Int),q s.ck.dS] bh/\fW 0 bh (.slice dc on de) out/\fB (db (eT F c 1) w) bh (.slice a n k) lH.log/\fB (db (eT F c 1) w) bh (.slice a2 b9 aZ) lH.ng)):=u (fun W uK un vF dc on de cv ct ag=>(anC (F:=eT F c 1) b6 bt cj lc aX bD 0 cU s.ck.dS _ (hj (out.map (·.2))) s.ce W (H.move (fun k hk av=>⟨av,cv.ho.block k hk⟩)) (ab.move (fun k hk av=>⟨av,cv.ho.block k hk⟩)) oE kv wq hu ag r).mono (by
      rintro e bh ⟨a,n,k,a2,b9,aZ,rfl,u1,u2,A⟩;have xn:=cv.below A;have X:=jq xn.bQ;have nu:=jq xn.up;rw[<-vu] at u1 u2;exact⟨a,n,k,a2,b9,aZ,by rw[XX],vH.out bh xn,⟨r,r⟩,CP A,u ⟨A,xn,ct.below A,u1.wide (Xr cv.ho.size),u2.wide (Xr cv.ho.size)⟩⟩))
     have FQ:Hid (∀W aB a n k a2 b9 aZ dc on de,oP w b #[.slice aC c6 bA,.slice b6 cj lc,.slice bt aX bD,q (s.ce.count:Int),.slice pa pn pc,q (s.last:Int),q s.ck.dS] (db (eT F c 1) w) lH (.slice dc on de) out aB a a2 n k b9 aZ W->ey 33 #[.pointer (some ⟨b,4,none⟩),.agg #[.slice a n k,.slice a2 b9 aZ,q (lH.count:Int)],.slice aC c6 bA,q s.ck.dS] W.drew fun e cw=>e=.returned (q (oa (f lH) s.nj:Int))/\(dp cw b 0=some (.slice aC c6 bA)/\dp cw b 1=some (.slice b6 cj lc)/\dp cw b 2=some (.slice bt aX bD)/\dp cw b 3=some (q (s.ce.count:Int))/\dp cw b 6=some (q s.ck.dS))/\(dp cw aB 0=some (.slice a n k)/\dp cw aB 1=some (.slice a2 b9 aZ)/\dp cw aB 2=some (q (lH.count:Int)))/\((dp cw w.heap.size 0=some (.slice none 0 0)/\dp cw w.heap.size 1=some (q 0))/\(cw.frozen? ⟨w.heap.size,0,none⟩=false/\cw.frozen? ⟨w.heap.size,1,none⟩=false))/\Hid (oP w b #[.slice aC c6 bA,.slice b6 cj lc,.slice bt aX bD,q (s.ce.count:Int),.slice pa pn pc,q (s.last:Int),q s.ck.dS] (db (eT F c 1) w) lH (.slice dc on de) out aB a a2 n k b9 aZ cw)):=u (fun W aB a n k a2 b9 aZ dc on de bi=>by
      have vz:Below W.heap.size W W.drew:=⟨rfl,rfl,rfl,ap,fun _ _=>rfl⟩;have CT:=bi.below vz;have k7:=CT.st.ho;refine(anh (f lH) s.nj b 4 (.slice pa pn pc) a a2 aC n k b9 aZ c6 bA (lH.count:Int) s.ck.dS W.drew (Z CT.st.bQ (i:=4) rfl) (jq CT.st.bQ) (ee aK.1 k7) mn (fun p aj aU qU=>hF p aj aU a a2 aC n k b9 aZ c6 bA lH (Below.fK k7 qU) (CT.log.below qU).inside (CT.Py.below qU).inside ?_ ⟨td,ts,t,out,hrel,vG,r4,xm,r,hw,vu⟩)).mono ?_
      ·exact((lX.move (F':=eT F c 0) (fun k hk av=>⟨av,k7.block k hk⟩)).move (F':=eT F c 0) (fun k hk av=>⟨av,qU.block k hk⟩)).inside
      ·rintro e cw ⟨rfl,A⟩;have cE:=CT.below A;exact⟨rfl,vH.out cw cE.st,⟨Z cE.at_ (i:=0) rfl,Z cE.at_ (i:=1) rfl,Z cE.at_ (i:=2) rfl⟩,yS.out cw cE.st,u cE⟩)
     have PC:Hid (∀W aB a n k a2 b9 aZ dc on de,oP w b #[.slice aC c6 bA,.slice b6 cj lc,.slice bt aX bD,q (s.ce.count:Int),.slice pa pn pc,q (s.last:Int),q s.ck.dS] (db (eT F c 1) w) lH (.slice dc on de) out aB a a2 n k b9 aZ W->(dp W b 0=some (.slice aC c6 bA)/\dp W b 1=some (.slice b6 cj lc)/\dp W b 2=some (.slice bt aX bD)/\dp W b 3=some (q (s.ce.count:Int))/\dp W b 6=some (q s.ck.dS))/\(dp W aB 0=some (.slice a n k)/\dp W aB 1=some (.slice a2 b9 aZ)/\dp W aB 2=some (q (lH.count:Int)))):=u (fun W aB a n k a2 b9 aZ dc on de bi=>⟨vH.out W bi.st,⟨Z bi.at_ (i:=0) rfl,Z bi.at_ (i:=1) rfl,Z bi.at_ (i:=2) rfl⟩⟩)
     have Av:Hid (∀W aB a n k a2 b9 aZ dc on de,oP w b #[.slice aC c6 bA,.slice b6 cj lc,.slice bt aX bD,q (s.ce.count:Int),.slice pa pn pc,q (s.last:Int),q s.ck.dS] (db (eT F c 1) w) lH (.slice dc on de) out aB a a2 n k b9 aZ W->(W.frozen? ⟨b,1,none⟩=false/\W.frozen? ⟨b,2,none⟩=false/\W.frozen? ⟨b,3,none⟩=false)/\(¬b=w.heap.size/\¬w.heap.size=b)):=u (fun W aB a n k a2 b9 aZ dc on de bi=>⟨⟨aQ bi.st.bQ,aQ bi.st.bQ,aQ bi.st.bQ⟩,⟨r,r⟩⟩)
     have nC:Hid (∀W aB a n k a2 b9 aZ dc on de,oP w b #[.slice aC c6 bA,.slice b6 cj lc,.slice bt aX bD,q (s.ce.count:Int),.slice pa pn pc,q (s.last:Int),q s.ck.dS] (db (eT F c 1) w) lH (.slice dc on de) out aB a a2 n k b9 aZ W->JA F w b ⟨0,0,out,{s with ce:=lH}⟩ (.returned (.tuple #[.agg #[.slice dc on de,q 0],q 0])) (((((W.setCell ⟨b,1,none⟩ (.slice a n k)).setCell ⟨b,2,none⟩ (.slice a2 b9 aZ)).setCell ⟨b,3,none⟩ (q (lH.count:Int))).setCell ⟨w.heap.size,0,none⟩ (.slice dc on de)).setCell ⟨w.heap.size,1,none⟩ (q 0))):=u (fun W aB a n k a2 b9 aZ dc on de bi=>by
      obtain⟨bz,cz⟩:=aow b5 aw h1 aK bi;exact⟨dc,on,de,rfl,bz,cz⟩)
     have X0:Hid (∀W,jC w b #[.slice aC c6 bA,.slice b6 cj lc,.slice bt aX bD,q (s.ce.count:Int),.slice pa pn pc,q (s.last:Int),q s.ck.dS] W->w.heap.size<=W.heap.size):=u (fun W cv=>cv.ho.size);generalize X1:oa (f lH) s.nj=F5 at *;have atr:=u X1;have ats:=u bc;clear nv h h1 H ab aK aw lX CR hrel rh sF AP AQ my hF ok fit dh sZ iD fF hw qq yS AR xj xm r7 ko CS r4 vG X1 vu XX aoJ aoK aoL dA PB oE kv wq mn b5 aoD bc vH;generalize s.ck.dS=r5 at *;generalize X2:lH.count=aoM at *;have aoN:=u X2;clear X2;go_enter func9,ntmps9;go_upto_region 6 with(first | (go_at_call 29;refine cK.out.mono ?_;rintro e J ⟨x,rfl,⟨a0,bq,a2,a3,a4⟩,jd⟩) | (go_at_call 28;refine(xl.out _).mono ?_;rintro e w' ⟨rfl,rfl⟩))
     go_region_held3 (fun w'=>w'.cell? ⟨b,0,none⟩=some (.slice aC c6 bA)/\w'.cell? ⟨b,1,none⟩=some (.slice b6 cj lc)/\w'.cell? ⟨b,2,none⟩=some (.slice bt aX bD)/\w'.cell? ⟨b,3,none⟩=some (q (s.ce.count:Int))/\w'.cell? ⟨b,6,none⟩=some (q r5)) (go_keep) (first | (go_at_call 30;refine(gJ.out J x jd.out.1 jd.out.2.2).mono ?_;rintro e S ⟨dc,on,de,rfl,⟨hr,cN,bL,fS,jg⟩,kh⟩));go_upto_region 11 with(go_at_call 27;refine(lg.out S kh.out.1).mono ?_;rintro e aA ⟨rfl,⟨d0,d1,d2,d3,d4⟩,-,oO⟩);have X3:Hid (fW 0 aA (.slice dc on de) out):=u (kh.out.2.below oO.out.2);have JB:Hid (jC w b #[.slice aC c6 bA,.slice b6 cj lc,.slice bt aX bD,q (s.ce.count:Int),.slice pa pn pc,q (s.last:Int),q r5] aA):=u oO.out.1
     have F6:Hid (jC w b #[.slice aC c6 bA,.slice b6 cj lc,.slice bt aX bD,q (s.ce.count:Int),.slice pa pn pc,q (s.last:Int),q r5] aA.drew/\fW 0 aA.drew (.slice dc on de) out):=u ⟨JB.out.below ⟨rfl,rfl,rfl,ap,fun _ _=>rfl⟩,X3.out.below ⟨rfl,rfl,rfl,ap,fun _ _=>rfl⟩⟩;have sA:Hid (∀W o,jC w b #[.slice aC c6 bA,.slice b6 cj lc,.slice bt aX bD,q (s.ce.count:Int),.slice pa pn pc,q (s.last:Int),q r5] W/\fW 0 W (.slice dc on de) out->jC w b #[.slice aC c6 bA,.slice b6 cj lc,.slice bt aX bD,q (s.ce.count:Int),.slice pa pn pc,q (s.last:Int),q r5] (W.alloc o)/\fW 0 (W.alloc o) (.slice dc on de) out):=u (fun W o h=>⟨h.1.below ((Below.refl _ _).alloc ap o),h.2.below ((Below.refl _ _).alloc ap o)⟩);obtain⟨X4,X5⟩:¬b=aA.heap.size/\¬aA.heap.size=b:=by have:=jq JB.out.bQ;exact⟨r,r⟩
     clear a0 bq a2 a3 a4 hr cN bL fS jg;go_cut [12] (fun F1 wc=>∃aB a n k a2 b9 aZ,F1=M aB/\Hid (oP w b #[.slice aC c6 bA,.slice b6 cj lc,.slice bt aX bD,q (s.ce.count:Int),.slice pa pn pc,q (s.last:Int),q r5] (db (eT F c 1) w) lH (.slice dc on de) out aB a a2 n k b9 aZ wc));case first=>
      go_region_held3 (fun w'=>w'.cell? ⟨b,0,none⟩=some (.slice aC c6 bA)/\w'.cell? ⟨b,1,none⟩=some (.slice b6 cj lc)/\w'.cell? ⟨b,2,none⟩=some (.slice bt aX bD)/\w'.cell? ⟨b,3,none⟩=some (q (s.ce.count:Int))/\w'.cell? ⟨b,6,none⟩=some (q r5)) (go_keep) (first
       | (go_at_call 31;refine(XZ.out _ _ _ _ dc on de (by first | exact uL.out.2.1 | exact(sA.out _ _ ⟨uL.out.2.1,uL.out.2.2.1⟩).1) (by first | exact uL.out.2.2.1 | exact(sA.out _ _ ⟨uL.out.2.1,uL.out.2.2.1⟩).2) (by first | exact uL.out.2.2.2 | exact uL.out.2.2.2.alloc _)).mono ?_;rintro e bh ⟨a,n,k,a2,b9,aZ,rfl,⟨f0,f1,f2,f3,f4⟩,⟨f5,f6⟩,⟨f7,f8⟩,ql⟩;have JC:Below bI.heap.size bI bh:=(by first | exact ql.out.1 | exact Below.CQ ql.out.1);obtain⟨g7,g8⟩:=CP (Below.fK uL.out.1 JC);replace JC:=u JC)
       | (go_at_call 32;refine(XY.out _ dc on de (by first | exact F6.out.1 | exact(sA.out _ _ F6.out).1) (by first | exact F6.out.2 | exact(sA.out _ _ F6.out).2)).mono ?_;rintro e bI ⟨uK,un,vF,rfl,⟨c7,Y,am,bm,hq⟩,⟨ol,s8⟩,⟨wj,sg⟩,uL⟩))
      all_goals
       clear c7 Y am bm hq ol s8 wj sg f0 f1 f2 f3 f4 f5 f6 f7 f8 g7 g8 X4 X5 d0 d1 d2 d3 d4;go_wp2_with fail;go_meet;case rel=>
        have wq:=aoN.out;subst wq;first
         | exact⟨_,_,_,_,_,_,_,rfl,u (oP.laid ql.out.2.1 ql.out.2.2.2.1 ql.out.2.2.2.2 ql.out.2.2.1)⟩
         | exact⟨_,_,_,_,_,_,_,rfl,u (oP.yP ql.out.2.1 (Below.a8 ql.out.1 (l8 rfl)) (X0.out _ uL.out.2.1) ql.out.2.2.2.1 ql.out.2.2.2.2 ql.out.2.2.1)⟩
         | exact⟨_,_,_,_,_,_,_,rfl,u (oP.yP ql.out.2.1 (Below.a8 (Below.fK uL.out.1 JC.out) (l8 rfl)) (X0.out _ JB.out) ql.out.2.2.2.1 ql.out.2.2.2.2 ql.out.2.2.1)⟩
     case rest=>
      obtain⟨aB,a,n,k,a2,b9,aZ,rfl,bi⟩:=hcut;obtain⟨⟨u0,u1,u2,u3,u4⟩,⟨v0,v1,v2⟩⟩:=PC.out wc aB a n k a2 b9 aZ dc on de bi.out;clear XY XZ F6 sA JB X3 X4 X5 d0 d1 d2 d3 d4 jd kh oO cK gJ lg xl;go_upto_region 12 with fail;go_region_held3 (fun w'=>w'.cell? ⟨b,0,none⟩=some (.slice aC c6 bA)/\w'.cell? ⟨b,1,none⟩=some (.slice b6 cj lc)/\w'.cell? ⟨b,2,none⟩=some (.slice bt aX bD)/\w'.cell? ⟨b,3,none⟩=some (q (s.ce.count:Int))/\w'.cell? ⟨b,6,none⟩=some (q r5)/\w'.cell? ⟨aB,0,none⟩=some (.slice a n k)/\w'.cell? ⟨aB,1,none⟩=some (.slice a2 b9 aZ)/\w'.cell? ⟨aB,2,none⟩=some (q (aoM:Int))) (go_keep) (first | (go_at_call 33;refine(FQ.out wc aB a n k a2 b9 aZ dc on de bi.out).mono ?_;rintro e cw ⟨rfl,⟨c7,Y,am,bm,hq⟩,⟨ol,s8,wj⟩,⟨⟨c3,cX⟩,⟨cA,hy⟩⟩,p6⟩));by_cases JD:F5=0
      ·subst JD;obtain⟨⟨pM,h0,gR⟩,⟨lA,B6⟩⟩:=Av.out cw aB a n k a2 b9 aZ dc on de p6.out;have yR:=u (nC.out cw aB a n k a2 b9 aZ dc on de p6.out);clear u0 u1 u2 u3 u4 v0 v1 v2 FQ PC Av nC wt;go_wp2_with fail;refine bodyPost_ret (v:=.tuple #[.agg #[.slice dc on de,q 0],q 0]) (by simp[results,results9,go_sem, *]) rfl ?_;first | exact yR.out | (rw[if_neg (fun h=>h rfl)];exact yR.out)
      ·have rB:¬(F5:Int)=0:=r;have att:((F5:Int)==0)=false:=by rw[cV];exact rB
       have yR:=u (wt.out cw 10 F5 p6.out.st.ho);clear u0 u1 u2 u3 u4 v0 v1 v2 FQ PC Av nC wt;go_wp2_with fail;refine bodyPost_ret (v:=.tuple #[.agg #[.slice none 0 0,q (F5:Int)],q 10]) (by simp[results,results9,go_sem, *]) rfl ?_;first | exact yR.out | (rw[if_pos JD];exact yR.out)
def aqU:(prog.info? 103).map (fun i=>(i.zero,i.size,i.bytes))=some (some (.agg #[q 0,q 0,q 0,q 0,.pointer none]),5,40):=ax
def auz(h:w.ownsRow base 103 5 v l.length (l.flatMap xi))(A:base<=w.heap.size)(X:l.length<=1000)(p:n9):∃a n c w',(∀ty,(Builtin.append_ #[68,68] ty #[v,.slice (some ⟨w.heap.size,0,none⟩) 1 1]).run prog (w.alloc (.cells #[q (p.num:Int),q (p.since:Int),q (p.form:Int),q p.span,M p.x] 103))=.ok (.slice a n c) w')/\w'.ownsRow base 103 5 (.slice a n c) (l++[p]).length ((l++[p]).flatMap xi)/\(w.alloc (.cells #[q (p.num:Int),q (p.since:Int),q (p.form:Int),q p.span,M p.x] 103)).grownBy w' v.ownBlock/\((Value.slice a n c).ownBlock=v.ownBlock\/(Value.slice a n c).ownBlock=some (w.heap.size+1)):=by
 obtain⟨cF,w',ag,an,R,fq⟩:=ug underlying68 aqU rfl K K h #[q (p.num:Int),q (p.since:Int),q (p.form:Int),q p.span,M p.x] rfl (by simp[Value.oneCell']) r A;obtain⟨a,c,rfl⟩:=cG an;refine⟨a,_,c,w',ag,?_,R,fq⟩;rw[cu,List.flatMap_append];simpa [xi] using an
def h2.put{x y z aq e j1 yQ CO iA bo:Value}{g:hG}(h:h2 F w b ⟨x,y,z,aq,e⟩ g)(OK:∀aE,w.heap[b]?=some (.cells #[aE,x,y,z,aq,e,q g.dS] 72 (0,0))->jx.heap[b]?=some (.cells #[aE,j1,yQ,CO,iA,bo,q g.dS] 72 (0,0)))(hk:∀k,k<w.heap.size->F k->k≠b->jx.heap[k]?=w.heap[k]?):h2 F jx b ⟨j1,yQ,CO,iA,bo⟩ g:=by
 obtain⟨c,aE,bs,aw,h1,H,ab⟩:=h;refine⟨c,aE,bs,aw,⟨h1.1,OK aE h1.2⟩,?_,fun i a kH=>?_⟩
 ·refine H.a8 (fun k cs _ e gi hF=>⟨hF,hk k gi hF.1 ?_⟩);rintro rfl;rw[h1.2] at e;injection e with e;injection e with _ e;exact absurd e K
 ·refine(ab i a kH).move (fun k gi hF=>⟨hF,hk k gi hF.1 ?_⟩);rintro rfl;have:=h1.1.2;have:=hF.2;omega
def aqV{c:Nat->Nat}(b5:8<=w.heap.size)(aw:∀k,F k->oN w k/\8<=k){nj:List n9}{last:Nat}(h1:h2 (eT F c 0) jx b ⟨.slice b6 cj lc,.slice bt aX bD,q (s.ce.count:Int),.slice pa pn pc,q (last:Int)⟩ s.ck)(H:fB (eT F c 1) jx (.slice b6 cj lc) s.ce.log)(ab:fB (eT F c 1) jx (.slice bt aX bD) s.ce.ng)(aK:eg (db (eT F c 2) w) jx 103 5 (.slice pa pn pc) nj.length (nj.flatMap xi))(hs:da F w jx):vE F w b {s with nj:=nj,last:=last} jx:=by
 have fH:∀i U,eT F c i U->U<w.heap.size:=fun i U ae=>by obtain⟨⟨cs,t,m,bo,_⟩,_⟩:=aw U ae.1;exact jq bo
 refine⟨fun U=>db F w U/\oN jx U,⟨fun U ae=>⟨ae.2,?_⟩,va c w 2,b6,bt,pa,cj,lc,aX,bD,pn,pc,?_,?_,?_,?_⟩,fun U ae=>?_,hs⟩
 ·rcases ae.1 with⟨_,h⟩ | h
  ·exact(aw U h).2
  ·omega
 ·refine h1.jW.move (dj.to fun U _ ae=>?_);have jz:=fH _ U ae.1;exact⟨⟨db.fH jz ae.1.1,ae.2⟩,by unfold va;rw[if_pos jz];exact ae.1.2⟩
 ·refine H.jW.move (dj.to fun U _ ae=>?_);have jz:=fH _ U ae.1;exact⟨⟨db.fH jz ae.1.1,ae.2⟩,by unfold va;rw[if_pos jz];exact ae.1.2⟩
 ·refine ab.jW.move (dj.to fun U _ ae=>?_);have jz:=fH _ U ae.1;exact⟨⟨db.fH jz ae.1.1,ae.2⟩,by unfold va;rw[if_pos jz];exact ae.1.2⟩
 ·exact(aK.jW (by simp[oM])).move (dj.to fun U _ ae=>⟨⟨(zL ae.1).1,ae.2⟩,(zL ae.1).2⟩)
 ·rcases ae.1 with⟨_,h⟩ | h
  ·exact .inl h
  ·exact .inr h
def arc(p:n9)(m:Int)(bB:Nat)(w:World)(bw:dp w bB 0=some (q m))(X:bB<w.heap.size):ey 66 #[Xu p,M bB] w fun e w'=>e=.returned (.bool ((p.num:Int)==m))/\Below w.heap.size w w':=by have cy:¬bB=w.heap.size:=r;unfold Xu;go_enter func66,ntmps66;go_wp2;go_ret;exact⟨rfl,cT⟩
def YW(l:List n9)(m:Int)(j:Nat):Prop:=∀i (_:i<j) (h:i<l.length),(l[i].num:Int)≠m
def AW(l:List n9)(m:Int):Option Nat:=l.findIdx? fun p=>(p.num:Int)==m
def ard(h:YW l m l.length):AW l m=none:=by unfold AW;rw[List.findIdx?_eq_none_iff];intro C ag;obtain⟨i,hi,rfl⟩:=List.mem_iff_getElem.1 ag;rw[cV];exact h i hi hi
def are{j:Nat}(h:YW l m j)(aS:j<l.length)(e:(l[j].num:Int)=m):AW l m=some j:=by unfold AW;rw[List.findIdx?_eq_some_iff_getElem];refine⟨aS,beq_iff_eq.2 e,fun i hi A=>?_⟩;exact h i hi r (beq_iff_eq.1 A)
def arf(l:List n9)(m:Int)(bB:Nat)(a:Option Addr)(af:Nat)(w:World)(bw:dp w bB 0=some (q m))(X:bB<w.heap.size)(an:w.ownsRow 0 103 5 (.slice a l.length af) l.length (l.flatMap xi))(ar:l.length<=1000):ey 65 #[.slice a l.length af,.func (.func 66) #[] #[M bB]] w fun e w'=>e=.returned (q (nV (AW l m)))/\Below w.heap.size w w':=by
 have eX:∀args w,(callFunc 66 args).run prog w=.ok (.enter 66 args) w:=enters_of func66 ax rfl;have e9:=u an;clear an;go_enter func65,ntmps65;go_wp2_with fail;go_loopg [5,8] (l.length+1) (fun U _ i wr=>∃j:Nat,j<=l.length/\i=q (j:Int)/\Hid (YW l m j)/\Below w.heap.size w wr/\l.length-j<U);case atStart=>exact⟨0,bu,rfl,u (fun i hi _=>absurd hi (fp _)),Below.refl _ _,r⟩
 case round=>
  obtain⟨j,aS,rfl,b8,A,ae⟩:=hrel;by_cases aD:j<l.length
  ·have cL:(j:Int)<(l.length:Int):=r;obtain⟨g,rfl,ef,d0,d1,d2,d3,d4⟩:=anf e9.d j aD;have bk:=dr A d0 ef;have c1:=dr A d1 ef;have c2:=dr A d2 ef;have dZ:=dr A d3 ef;have gp:=dr A d4 ef;have dT:=u (dr A bw X);have o9:bB<wr.heap.size:=by have:=A.size;omega
   have fr:IntKind.i64.wrap ((j:Int)+1)=(j:Int)+1:=mC;have ch:=u ae;clear d0 d1 d2 d3 d4 ae;have bn:Hid (∀b,((l[j].num:Int)==m)=b->(b=true->AW l m=some j)/\(b=false->YW l m (j+1))):=u (fun b bg=>⟨fun e=>are b8.d aD (beq_iff_eq.1 (bg.trans e)),fun e a ak h=>by
     by_cases Y:a=j
     ·subst Y;exact cV.1 (bg.trans e)
     ·exact b8.d a r h⟩)
   have aN:=u (arc l[j] m bB wr dT.d o9);unfold Xu at aN;generalize ((l[j].num:Int)==m)=hb at aN bn;have SZ:=bn.d hb rfl;have eS:=u SZ;clear bn SZ b8;cases hb
   ·have bj:=u (eS.d.2 rfl);clear eS;go_wp2_with (go_at_fn 66;refine aN.d.mono ?_;rintro e S ⟨rfl,ah⟩);have ae:=ch.d;go_roundg (l.length-j);case measure=>omega
    case rel=>exact⟨j+1,r,by go_num,bj,A.trans (ah.mono A.size),r⟩
   ·have bj:=u (eS.d.1 rfl);clear eS;go_wp2_with (go_at_fn 66;refine aN.d.mono ?_;rintro e S ⟨rfl,ah⟩);go_ret;exact⟨by rw[bj.d];rfl,A.trans (ah.mono A.size)⟩
  ·have eZ:j=l.length:=r;subst eZ;have cL:(l.length:Int)<=(l.length:Int):=r;have bj:=u (ard b8.d);clear b8;go_wp2_with fail;go_ret;exact⟨by rw[bj.d];rfl,A⟩
def atA{P:Program}(w:World)(t e ty:TypeId)(z:Value)(zs:List Value)(au:P.underlying t=some (.slice e))(hv:∀w,(zeroValue e).run P w=.ok z w)(h1:∀v∈zs,v.oneCell'=true)(aY:(Builtin.zeroCells z.cells 1).toList=zs)(b o c:Nat)(ai:∀j,j<zs.length->(dp w b (o+j)).isSome=true)(av:∀j,j<zs.length->w.frozen? ⟨b,o+j,none⟩=false):(Builtin.clear_ #[t] ty #[.slice (some ⟨b,o,none⟩) 1 c]).run P w=.ok (.tuple #[]) (w.setCells b o zs):=by have c4:=run_storeCells_cells (P:=P) b o zs 0 w (by simpa using ai) (by simpa using av) h1;simp only[Nat.add_zero] at c4;simp[Builtin.clear_,run_underlying au,hv,aY,c4]
def PQ:List Value:=[q 0,q 0,q 0,q 0,.pointer none]
def atJ:(Builtin.zeroCells (Value.agg #[q 0,q 0,q 0,q 0,.pointer none]).cells 1).toList=PQ:=ax
def atK{ay:Array Value}{af:Nat}{xs:List Value}{c1 c2:Array Value}(hi:i<n)(ar:n<=af)(hs:ay.size=af*5)(aa:ay.toList.take (n*5)=xs)(h1:c1.toList=ay.toList.take (i*5)++xs.drop (i*5+5)++ay.toList.drop (i*5+(xs.drop (i*5+5)).length))(zs:List Value)(H:c2.toList=c1.toList.take ((n-1)*5)++zs++c1.toList.drop ((n-1)*5+5)):c2.toList.take ((n-1)*5)=xs.take (i*5)++xs.drop (i*5+5):=by
 have sq:ay.toList.length=af*5:=by rw[Array.length_toList,hs]
 have BG:xs.length=n*5:=by rw[<-aa,List.length_take];omega
 have Y:ay.toList.take (i*5)=xs.take (i*5):=by rw[<-aa,List.take_take];congr 1;omega
 have l1:(xs.take (i*5)++xs.drop (i*5+5)).length=(n-1)*5:=by rw[cu,List.length_take,List.length_drop];omega
 have am:c1.toList.take ((n-1)*5)=xs.take (i*5)++xs.drop (i*5+5):=by rw[h1,Y,List.take_append_of_le_length r,List.take_of_length_le r]
 rw[H,am,List.append_assoc,List.take_append_of_le_length r,List.take_of_length_le r]
def atM(lo g af n i:Nat)(xs:List Value)(w:World)(an:w.ownsRow lo 103 5 (.slice (some ⟨g,0,none⟩) n af) n xs)(D3:∀bp∈xs,bp.oneCell'=true)(hi:i<n)(ar:n<=1000):ey 67 #[.slice (some ⟨g,0,none⟩) n af,q (i:Int),q ((i:Int)+1)] w fun e w'=>e=.returned (.slice (some ⟨g,0,none⟩) (n-1) af)/\w'.ownsRow lo 103 5 (.slice (some ⟨g,0,none⟩) (n-1) af) (n-1) (xs.take (i*5)++xs.drop (i*5+5))/\w.grownBy w' (some g):=by
 obtain⟨i0,nM,gj,gx,cd⟩:=info_parts aqU;obtain⟨BG,ej⟩:=an;rcases ej with⟨e,_⟩ | ⟨dM,cJ,ay,e,eI,ed,SR,kk,j2,BH⟩
 ·cases e
 obtain⟨rfl,rfl⟩:g=dM/\af=cJ:=by injection e with Y am bm;injection Y with Y;injection Y with Y;exact⟨Y,bm⟩
 clear e;unfold maxLen at kk;generalize BI:xs.drop (i*5+5)=news;have b7:news.length=(n-(i+1))*5:=by rw[<-BI,List.length_drop];omega
 have k7:w.drew.heap[g]?=some (.cells ay 103 (0,0)):=ed;obtain⟨zI,bJ,dV,nU⟩:=Hh g 103 news (i*5) w.drew ay k7 (by rw[b7,j2];omega);have iV:∀(j:Nat) bp,ay.toList[j]?=some bp->w.drew.cell? ⟨g,j,none⟩=some bp:=by intro j bp hu;rw[Array.getElem?_toList] at hu;simp[World.cell?,k7,hu]
 obtain⟨aB,cr,BJ⟩:∃aB:Addr,(if af=i+1 then some (⟨g,0,none⟩:Addr) else some ⟨g,(i+1)*5,none⟩)=some aB/\Hid (∀t bp,news[t]?=some bp->w.drew.cell? (aB.add t)=some bp):=by
  by_cases h:af=i+1
  ·refine⟨⟨g,0,none⟩,by simp[h],fun t bp hu=>?_⟩;have aw:news.length=0:=by rw[b7];omega
   rw[List.length_eq_zero_iff.1 aw] at hu;simp at hu
  ·refine⟨⟨g,(i+1)*5,none⟩,by simp[h],fun t bp hu=>?_⟩;have au:t<news.length:=(List.getElem?_eq_some_iff.1 hu).1;rw[Addr.add_lit];refine iV _ _ ?_;rw[<-BI,List.getElem?_drop,<-BH,List.getElem?_take,if_pos r] at hu;rw[<-hu];congr 1;omega
 have s1:Hid (news.length=(n-(i+1))*5):=b7;have s2:Hid (∀bp∈news,bp.oneCell'=true):=fun bp hu=>D3 bp (by rw[<-BI] at hu;exact List.mem_of_mem_drop hu);have dd:Hid (∀t,t<news.length->(w.drew.cell? ⟨g,0+i*5+t,none⟩).isSome=true/\w.drew.frozen? ⟨g,0+i*5+t,none⟩=false):=by intro t au;rw[b7] at au;refine⟨?_,by simp[World.frozen?,k7]⟩;rw[iV (0+i*5+t) _ (fC (by rw[Array.length_toList,j2];omega))];rfl
 obtain⟨ih,iv⟩:∃ih,ih=w.drew.setCells g (0+i*5) news:=⟨_,rfl⟩;have c7:0+i*5=i*5:=r;rw[c7] at iv;have fN:ih.heap[g]?=some (.cells zI 103 (0,0)):=by rw[iv];exact bJ
 have pN:∀ty,(Builtin.clear_ #[68] ty #[.slice (some ⟨g,(n-1)*5,none⟩) 1 (af-(n-1))]).run prog ih=.ok (.tuple #[]) (ih.setCells g ((n-1)*5) PQ):=fun ty=>atA ih _ _ ty _ PQ underlying68 Tryz.zeroValue103 (by simp[PQ,Value.oneCell']) atJ g ((n-1)*5) _ (fun j aS=>by have lv:j<5:=aS;simp[World.cell?,fN,Array.getElem?_eq_getElem (show(n-1)*5+j<zI.size by rw[dV,j2];omega)]) (fun j aS=>by simp[World.frozen?,fN]);obtain⟨Hk,ah,ep,nN⟩:=Hh g 103 PQ ((n-1)*5) ih zI fN (by rw[dV,j2];show _+5<=_;omega);have DR:Hid (w.grownBy (ih.setCells g ((n-1)*5) PQ) (some g)):=u (by
  obtain⟨bq,a2,a3,a4⟩:=Hi g news (i*5) w.drew;obtain⟨cN,bL,fS,jg⟩:=Hi g PQ ((n-1)*5) ih;rw[<-iv] at bq a2 a3 a4;refine⟨cN.trans bq,bL.trans a2,fS.trans a3,Nat.le_of_eq (jg.trans a4).symm,fun k _ hk=>?_⟩;have D4:k≠g:=fun e=>hk (by rw[e]);rw[Hg g _ _ _ k D4,iv,Hg g _ _ _ k D4];rfl)
 have D5:Hid ((ih.setCells g ((n-1)*5) PQ).ownsRow lo 103 5 (.slice (some ⟨g,0,none⟩) (n-1) af) (n-1) (xs.take (i*5)++xs.drop (i*5+5))):=u (by
  refine⟨?_,.inr ⟨g,af,Hk,rfl,eI,ah,r,by unfold maxLen;omega,by rw[ep,dV,j2],?_⟩⟩
  ·rw[cu,List.length_take,List.length_drop];omega
  ·exact atK hi SR j2 BH (by rw[nU,BI]) _ nN)
 rw[BI] at D5;have aO:Hid (ih=w.drew.setCells g (0+i*5) news):=u (by rw[c7];exact iv);have fM:(i:Int)+1<=(n:Int):=r;have arR:(n:Int)<=(af:Int):=r;have aez:i<=af:=r;have aeA:(0:Int)<=(i:Int)+1:=r;have aeB:i+1<=af:=r;have cy:((i:Int)==(i:Int)+1)=false:=by rw[cV];omega
 clear iv fN bJ ah nU nN dV ep ed k7 iV BH BG D3 j2 b7 BI c7;go_enter func67,ntmps67;go_wp2_with fail;go_region_law (refine step_append_room rfl (.tmp 22) (.tmp 25) 68 rfl 103 i0 5 underlying68 nM gx g 0 i af (by simp[Act.eval,Act.put]) aB (n-(i+1)) (af-(i+1)) news (by simp[Act.eval,Act.put]) s1.d BJ.d s2.d r dd.d ?_;rw[<-aO.d]);rw[show i+(n-(i+1))=n-1 from r];have LD:¬af=n-1:=r;have dA:n-(n-1)=1:=r;have arS:n-1<=af:=r;have zJ:((n-1:Nat):Int)<=(n:Int):=r;have arT:(0:Int)<=((n-1:Nat):Int):=r;clear cr aeB aez fM aeA cy;go_wp2_with fail;go_ret;exact⟨rfl,D5.d,DR.d⟩
def auI(h:nH F w b s)(b5:8<=w.heap.size)(X:s.nj.length<=100)(wx:s.last<=1000000)(since form:Nat)(span:Int)(x:Nat):ey 26 #[.pointer (some ⟨b,4,none⟩),.agg #[q (form:Int),q span,M x],q (since:Int)] w fun e w'=>e=.returned (q ((s.last+1:Nat):Int))/\(dp w' b 1=dp w b 1/\dp w' b 2=dp w b 2/\dp w' b 3=dp w b 3)/\vE F w b {s with nj:=s.nj++[⟨s.last+1,since,form,span,x⟩],last:=s.last+1} w':=by
 obtain⟨aw,c,b6,bt,pa,cj,lc,aX,bD,pn,pc,h1,H,ab,aK⟩:=id h;obtain⟨aqW,aE,bs,g0,g1,g2,g3⟩:=id h1;have bJ:=g1.lt;have Pz:F b/\c b=0:=g1.1.1;have A7:IntKind.i64.wrap ((s.last:Int)+1)=(s.last:Int)+1:=mC;have iD:Below w.heap.size w (w.alloc (.cells #[q (form:Int),q span,M x] 61)):=cT;have fA:=bH w (.cells #[q (form:Int),q span,M x] 61);generalize DP:w.alloc (.cells #[q (form:Int),q span,M x] 61)=hz at *;have JZ:hz.heap[b]?=some (.cells #[aE,.slice b6 cj lc,.slice bt aX bD,q (s.ce.count:Int),.slice pa pn pc,q (s.last:Int),q s.ck.dS] 72 (0,0)):=Below.a8 iD g1.2
 have YA:(hz.setCell ⟨b,5,none⟩ (q ((s.last:Int)+1))).heap[b]?=some (.cells #[aE,.slice b6 cj lc,.slice bt aX bD,q (s.ce.count:Int),.slice pa pn pc,q ((s.last:Int)+1),q s.ck.dS] 72 (0,0)):=hc (o:=5) JZ (q ((s.last:Int)+1));have aps:=uI (i:=5) (q ((s.last:Int)+1)) JZ fA K;have xE:eg (eT F c 2) hz 103 5 (.slice pa pn pc) s.nj.length (s.nj.flatMap xi):=aK.move (fun k hk av=>⟨av,iD.block k hk⟩);have tS:(Value.slice pa pn pc).ownBlock≠some b:=xE.apart JZ K;have ft:=xE.set tS 5 (q ((s.last:Int)+1));have s1:da (fun U=>U=b\/(Value.slice pa pn pc).ownBlock=some U) w (hz.setCell ⟨b,5,none⟩ (q ((s.last:Int)+1))):=(da.of iD).andThen (da.set b 5 _ (.inl rfl));have fO:dp hz b 5=some (q (s.last:Int)):=Z JZ (i:=5) rfl;have f5:=aQ (i:=5) JZ
 generalize iv:hz.setCell ⟨b,5,none⟩ (q ((s.last:Int)+1))=ih at *;have hq:dp ih b 4=some (.slice pa pn pc):=Z YA (i:=4) rfl;have ol:dp ih b 5=some (q ((s.last:Int)+1)):=Z YA (i:=5) rfl;have dN:dp ih w.heap.size 0=some (q (form:Int)):=Z aps (i:=0) rfl;have bz:dp ih w.heap.size 1=some (q span):=Z aps (i:=1) rfl;have cz:dp ih w.heap.size 2=some (M x):=Z aps (i:=2) rfl;have b3:=s1.size;obtain⟨hl,e2,iL,bh,p1,p2,fw,pf⟩:=auz (w:=ih.drew) ft.1.drew bu r ⟨s.last+1,since,form,span,x⟩;have bb:ih.drew.heap.size=ih.heap.size:=rfl;simp only[bb,show((s.last+1:Nat):Int)=(s.last:Int)+1 from r] at p1 p2 fw pf
 have s2:da (fun U=>U=b\/(Value.slice pa pn pc).ownBlock=some U) ih bh:=(da.of (show Below ih.heap.size ih (ih.drew.alloc _) from(show Below ih.heap.size ih ih.drew from⟨rfl,rfl,rfl,ap,fun _ _=>rfl⟩).alloc ap _)).andThen (da.grown fw (fun k e=>.inr e));have dd:=s1.andThen (s2.andThen (da.set b 4 (.slice hl e2 iL) (.inl rfl)));have aqX:bh.heap[b]?=ih.heap[b]?:=by have aD:b<ih.heap.size:=jq YA;rw[fw.block b (by rw[cc];exact Nat.lt_succ_of_lt aD) (fun e=>tS e.symm)];exact Below.heap_alloc ih.drew _ b aD
 have ahj:=aqX.trans YA;have Yq:(bh.setCell ⟨b,4,none⟩ (.slice hl e2 iL)).heap[b]?=some (.cells #[aE,.slice b6 cj lc,.slice bt aX bD,q (s.ce.count:Int),.slice hl e2 iL,q ((s.last:Int)+1),q s.ck.dS] 72 (0,0)):=hc (o:=4) ahj (.slice hl e2 iL);have i4:dp bh b 4=some (.slice pa pn pc):=Z ahj (i:=4) rfl;have jM:=aQ (i:=4) ahj;have e8:(bh.setCell ⟨b,4,none⟩ (.slice hl e2 iL)).cell? ⟨b,5,none⟩=some (q ((s.last:Int)+1)):=Z Yq (i:=5) rfl;have OS:Hid (vE F w b {s with nj:=s.nj++[⟨s.last+1,since,form,span,x⟩],last:=s.last+1} (bh.setCell ⟨b,4,none⟩ (.slice hl e2 iL))):=u (by
  have Iy:∀U,U<w.heap.size->U≠b->(Value.slice pa pn pc).ownBlock≠some U->(bh.setCell ⟨b,4,none⟩ (.slice hl e2 iL)).heap[U]?=w.heap[U]?:=fun U ae bM b9=>dd.block U ae (fun e=>e.elim bM b9);have ap6:∀U,(Value.slice pa pn pc).ownBlock=some U->c U=2:=fun U e=>(aK.2 U e).2;refine aqV (c:=c) (pa:=hl) (pn:=e2) (pc:=iL) b5 aw (h1.put (fun as6 e=>?_) (fun k hk av ar=>Iy k hk ar (fun e=>?_))) (H.move (fun k hk av=>⟨av,Iy k hk (fun e=>?_) (fun e=>?_)⟩)) (ab.move (fun k hk av=>⟨av,Iy k hk (fun e=>?_) (fun e=>?_)⟩)) ?_ (dd.mono (fun k _ e=>?_))
  ·rw[g1.2] at e;injection e with e;injection e with e _;obtain rfl:aE=as6:=bx (congrArg (fun a=>a[0]?) e);rw[show((s.last+1:Nat):Int)=(s.last:Int)+1 from r];exact Yq
  ·have:=ap6 k e;have:=av.2;omega
  ·have:=av.2;rw[e,Pz.2] at this;cases this
  ·have:=ap6 k e;have:=av.2;omega
  ·have:=av.2;rw[e,Pz.2] at this;cases this
  ·have:=ap6 k e;have:=av.2;omega
  ·have qA:eg (db (eT F c 2) w) bh 103 5 (.slice hl e2 iL) (s.nj++[(⟨s.last+1,since,form,span,x⟩:n9)]).length ((s.nj++[(⟨s.last+1,since,form,span,x⟩:n9)]).flatMap xi):=⟨by simpa using p2,fun k e=>by
    rcases pf with h | h
    ·rw[h] at e;exact db.any (aK.2 k e)
    ·rw[h] at e;obtain rfl:=bx e;exact db.new r⟩
   exact qA.set (qA.apart ahj K) 4 _
  ·rcases e with e | e
   ·rw[e];exact Pz.1
   ·exact(aK.2 k e).1)
 have kz:b<ih.heap.size:=by have:=World.block_lt_of_cell? ih _ hq;exact this
 have nu:w.heap.size<ih.heap.size:=by have:=World.block_lt_of_cell? ih _ dN;exact this
 have dA:¬b=ih.heap.size:=r;have er:¬w.heap.size=ih.heap.size:=r;have Ag:Hid ((bh.setCell ⟨b,4,none⟩ (.slice hl e2 iL)).cell? ⟨b,1,none⟩=dp w b 1/\(bh.setCell ⟨b,4,none⟩ (.slice hl e2 iL)).cell? ⟨b,2,none⟩=dp w b 2/\(bh.setCell ⟨b,4,none⟩ (.slice hl e2 iL)).cell? ⟨b,3,none⟩=dp w b 3):=u ⟨(Z Yq (i:=1) rfl).trans (g1.cell (i:=1) rfl).symm,(Z Yq (i:=2) rfl).trans (g1.cell (i:=2) rfl).symm,(Z Yq (i:=3) rfl).trans (g1.cell (i:=3) rfl).symm⟩;have qa:=u p1;clear p1 p2 fw pf s1 s2 dd xE ft JZ YA aqX ahj Yq h aw h1 H ab aK g0 g1 g2 g3 fA aps iD bb tS;go_enter func26,ntmps26;go_upto_region 1 with fail;try rw[DP]
 go_upto_region 2 with fail;try rw[iv]
 go_region_law (refine IG rfl (.tmp 18) (.tmp 26) 68 68 rfl (.slice pa pn pc) (.slice (some ⟨ih.heap.size,0,none⟩) 1 1) (by simp[Act.eval]) (by simp[Act.eval]) (qa.d _) ?_);all_goals
  clear qa;go_wp2_with fail;go_ret;exact⟨by simp,Ag.d,OS.d⟩
def atO(l:List n9):∀i,(l.flatMap xi).take (i*5)=(l.take i).flatMap xi:=by
 induction l with
 | nil=>intro i;simp
 | cons a C aH=>
  intro i;cases i with
  | zero=>simp
  | succ i=>rw[List.flatMap_cons,List.take_succ_cons,List.flatMap_cons,<-aH i,show(i+1)*5=(xi a).length+i*5 from by show _=5+_;omega,List.take_length_add_append]
def atQ(l:List n9):∀i,(l.flatMap xi).drop (i*5)=(l.drop i).flatMap xi:=by
 induction l with
 | nil=>intro i;simp
 | cons a C aH=>
  intro i;cases i with
  | zero=>simp
  | succ i=>rw[List.flatMap_cons,List.drop_succ_cons,<-aH i,show(i+1)*5=(xi a).length+i*5 from by show _=5+_;omega,List.drop_length_add_append]
def atR(l:List n9)(i:Nat):(l.flatMap xi).take (i*5)++(l.flatMap xi).drop (i*5+5)=(l.eraseIdx i).flatMap xi:=by rw[show i*5+5=(i+1)*5 from r,atO,atQ,<-List.flatMap_append,List.eraseIdx_eq_take_drop_succ]
def atS(l:List n9):∀bp∈l.flatMap xi,bp.oneCell'=true:=fun bp hu=>by obtain⟨p,_,h⟩:=List.mem_flatMap.1 hu;unfold xi at h;simp only[List.mem_cons,List.not_mem_nil,or_false] at h;rcases h with rfl | rfl | rfl | rfl | rfl<;>rfl
def Ge(l:List n9)(m:Int):List n9:=match AW l m with
 | none=>l
 | some i=>l.eraseIdx i
def atT(h:nH F w b s)(b5:8<=w.heap.size)(X:s.nj.length<=100)(m:Int):ey 34 #[.pointer (some ⟨b,4,none⟩),q m] w fun e w'=>e=.returned (.bool (AW s.nj m).isSome)/\vE F w b {s with nj:=Ge s.nj m} w':=by
 have cS:=h;obtain⟨aw,c,b6,bt,pa,cj,lc,aX,bD,pn,pc,h1,H,ab,aK⟩:=id h;obtain⟨aqW,aE,bs,g0,g1,g2,g3⟩:=id h1;obtain rfl:pn=s.nj.length:=by obtain⟨nB,e7,e⟩:=aK.shape;injection e
 have Pz:F b/\c b=0:=g1.1.1;have iD:Below w.heap.size w (w.alloc (.cells #[q m] 3)):=cT;have fA:=bH w (.cells #[q m] 3);have atU:w.heap.size<(w.alloc (.cells #[q m] 3)).heap.size:=by simp
 generalize DP:w.alloc (.cells #[q m] 3)=hz at *;have JZ:hz.heap[b]?=some (.cells #[aE,.slice b6 cj lc,.slice bt aX bD,q (s.ce.count:Int),.slice pa s.nj.length pc,q (s.last:Int),q s.ck.dS] 72 (0,0)):=Below.a8 iD g1.2;have xE:eg (eT F c 2) hz 103 5 (.slice pa s.nj.length pc) s.nj.length (s.nj.flatMap xi):=aK.move (fun k hk av=>⟨av,iD.block k hk⟩);have PV:=u (arf s.nj m w.heap.size pa pc hz (Z fA (i:=0) rfl) atU xE.1 r);have gp:dp hz b 4=some (.slice pa s.nj.length pc):=Z JZ (i:=4) rfl;cases aj:AW s.nj m with
 | none=>rw[aj] at PV;replace PV:Hid (ey 65 #[.slice pa s.nj.length pc,.func (.func 66) #[] #[M w.heap.size]] hz fun e w'=>e=.returned (q (-1))/\Below hz.heap.size hz w'):=PV;have ht:Hid (Ge s.nj m=s.nj):=u (by unfold Ge;rw[aj]);have nv:Hid (∀W,Below w.heap.size w W->vE F w b s W):=u (fun W A=>vE.same cS A);have my:=u iD;clear h cS aw h1 H ab aK g0 g1 g2 g3 xE JZ fA aj iD;go_enter func34,ntmps34;go_wp2_with (first | (go_at_call 65;refine PV.d.mono ?_;rintro e S ⟨rfl,ah⟩));go_ret;exact⟨rfl,by rw[ht.d];exact nv.d _ (Below.fK my.d ah)⟩
 | some i=>
  have hi:i<s.nj.length:=by unfold AW at aj;exact(List.findIdx?_eq_some_iff_getElem.1 aj).1
  rw[aj] at PV;replace PV:Hid (ey 65 #[.slice pa s.nj.length pc,.func (.func 66) #[] #[M w.heap.size]] hz fun e w'=>e=.returned (q (i:Int))/\Below hz.heap.size hz w'):=PV;obtain⟨g,Iv,R⟩:=vA xE.1 r;subst Iv;have Ys:c g=2/\F g:=by have:=aK.2 g rfl;exact⟨this.2,this.1⟩
  have ed:g≠b:=fun e=>by have:=Ys.1;rw[e,Pz.2] at this;cases this
  have aej:IntKind.i64.wrap ((i:Int)+1)=(i:Int)+1:=mC;have nM:¬(i:Int)<0:=r;have axg:(0:Int)<=(i:Int):=r;have atV:Hid (∀W,Below hz.heap.size hz W->ey 67 #[.slice (some ⟨g,0,none⟩) s.nj.length pc,q (i:Int),q ((i:Int)+1)] W fun e w'=>e=.returned (.slice (some ⟨g,0,none⟩) (s.nj.length-1) pc)/\(dp w' b 4=some (.slice (some ⟨g,0,none⟩) s.nj.length pc)/\w'.frozen? ⟨b,4,none⟩=false)/\Hid (vE F w b {s with nj:=s.nj.eraseIdx i} (w'.setCell ⟨b,4,none⟩ (.slice (some ⟨g,0,none⟩) (s.nj.length-1) pc)))):=u (fun W A=>by
   have hK:=Below.fK iD A;have atW:eg (eT F c 2) W 103 5 (.slice (some ⟨g,0,none⟩) s.nj.length pc) s.nj.length (s.nj.flatMap xi):=aK.move (fun k hk av=>⟨av,hK.block k hk⟩);refine(atM 0 g pc s.nj.length i (s.nj.flatMap xi) W atW.1 (atS _) hi r).mono ?_;rintro e w' ⟨rfl,aI,aZ⟩;rw[atR] at aI;have ape:=Below.a8 A JZ;have Yu:w'.heap[b]?=some (.cells #[aE,.slice b6 cj lc,.slice bt aX bD,q (s.ce.count:Int),.slice (some ⟨g,0,none⟩) s.nj.length pc,q (s.last:Int),q s.ck.dS] 72 (0,0)):=(aZ.block b (jq ape) (fun e=>ed (bx e).symm)).trans ape
   have Yq:(w'.setCell ⟨b,4,none⟩ (.slice (some ⟨g,0,none⟩) (s.nj.length-1) pc)).heap[b]?=some (.cells #[aE,.slice b6 cj lc,.slice bt aX bD,q (s.ce.count:Int),.slice (some ⟨g,0,none⟩) (s.nj.length-1) pc,q (s.last:Int),q s.ck.dS] 72 (0,0)):=hc (o:=4) Yu _;have dd:da (fun U=>U=b\/U=g) w (w'.setCell ⟨b,4,none⟩ (.slice (some ⟨g,0,none⟩) (s.nj.length-1) pc)):=(da.of hK).andThen ((da.grown aZ (fun k e=>.inr (bx e).symm)).andThen (da.set b 4 _ (.inl rfl)));refine⟨rfl,⟨Z Yu (i:=4) rfl,aQ (i:=4) Yu⟩,u ?_⟩;have Iy:∀U,U<w.heap.size->U≠b->U≠g->(w'.setCell ⟨b,4,none⟩ (.slice (some ⟨g,0,none⟩) (s.nj.length-1) pc)).heap[U]?=w.heap[U]?:=fun U ae bM b9=>dd.block U ae (fun e=>e.elim bM b9)
   refine aqV (c:=c) (last:=s.last) (pa:=some ⟨g,0,none⟩) (pn:=s.nj.length-1) (pc:=pc) b5 aw (h1.put (fun as6 e=>?_) (fun k hk av ar=>Iy k hk ar (fun e=>?_))) (H.move (fun k hk av=>⟨av,Iy k hk (fun e=>?_) (fun e=>?_)⟩)) (ab.move (fun k hk av=>⟨av,Iy k hk (fun e=>?_) (fun e=>?_)⟩)) ?_ (dd.mono (fun k _ e=>?_))
   ·rw[g1.2] at e;injection e with e;injection e with e _;obtain rfl:aE=as6:=bx (congrArg (fun a=>a[0]?) e);exact Yq
   ·have:=av.2;rw[e,Ys.1] at this;cases this
   ·have:=av.2;rw[e,Pz.2] at this;cases this
   ·have:=av.2;rw[e,Ys.1] at this;cases this
   ·have:=av.2;rw[e,Pz.2] at this;cases this
   ·have:=av.2;rw[e,Ys.1] at this;cases this
   ·have b7:(s.nj.eraseIdx i).length=s.nj.length-1:=by rw[List.length_eraseIdx,if_pos hi]
    have qA:eg (db (eT F c 2) w) w' 103 5 (.slice (some ⟨g,0,none⟩) (s.nj.length-1) pc) (s.nj.eraseIdx i).length ((s.nj.eraseIdx i).flatMap xi):=⟨by rw[b7];exact aI,fun k e=>by
     obtain rfl:g=k:=bx e;exact db.any (aK.2 g rfl)⟩
    exact qA.set (qA.apart Yu K) 4 _
   ·rcases e with e | e
    ·rw[e];exact Pz.1
    ·rw[e];exact Ys.2)
  have Ud:Hid (∀W,Below hz.heap.size hz W->dp W b 4=some (.slice (some ⟨g,0,none⟩) s.nj.length pc)):=u (fun W A=>(A.cell (p:=⟨b,4,none⟩) (jq JZ)).trans gp);have ht:Hid (Ge s.nj m=s.nj.eraseIdx i):=u (by unfold Ge;rw[aj]);clear h cS aw h1 H ab aK g0 g1 g2 g3 xE JZ fA aj iD;go_enter func34,ntmps34;go_wp2_with (first | (go_at_call 67;refine(atV.d S ah.d).mono ?_;rintro e aA ⟨rfl,⟨hq,f4⟩,oG⟩) | (go_at_call 65;refine PV.d.mono ?_;rintro e S ⟨rfl,MV⟩;have d4:=Ud.d S MV;have ah:=u MV;clear MV));go_ret;exact⟨rfl,by rw[ht.d];exact oG.d⟩
def A1(td:List eb)(s:ByteArray):Nat:=if kq s [1,2]≠0 then kq s [1,2] else match hC s with
 | none=>0
 | some x=>if mM x.1<0 then 1 else pj td x.2
def uO(j:qh)(bd:List bG):List bG:=[Al j.log,Am j.ng]++bd
def aqZ(j:qh)(bd:List bG)(s:ByteArray)(w:World)(e:Ending)(w':World):Prop:=Below w.heap.size w w'/\∃f sp YB,e=.returned (.tuple #[.agg #[q f,q sp,.pointer YB],q (A1 (pq (uO j bd)) s:Int)])/\(A1 (pq (uO j bd)) s=0->∃ts t x lo hi td,hC s=some (ts,t)/\ts.length<=400/\f=(gq ts:Int)/\sp=mM ts/\w.heap.size<=lo/\YB=some ⟨x,0,none⟩/\oJ td (uO j bd)/\dK td w' t [] lo hi [M x])
def auR(s:ByteArray)(j:qh)(bd:List bG)(b:Nat)(aC b6 bt pa:Option Addr)(c6 bA cj lc aX bD pn pc:Nat)(auS auT:Int)(w:World)(R:et w)(aa:w.heap[b]?=some (.cells #[.slice aC c6 bA,.slice b6 cj lc,.slice bt aX bD,q (j.count:Int),.slice pa pn pc,q auS,q auT] 72 (0,0)))(h1:fB F w (.slice b6 cj lc) j.log)(H:fB F w (.slice bt aX bD) j.ng)(bi:p3 F w (.slice aC c6 bA) bd)(Ax:bd.length<=900)(xP:∀t∈bd,t.bl.length<=4):ey 24 #[M b,.string s] w (aqZ j bd s w):=by
 have k0:=R.js;have bc:=jq aa;have kF:Below w.heap.size w (w.alloc (.cells #[q 0,q 0,.pointer none] 61)):=cT;have z0:(w.alloc (.cells #[q 0,q 0,.pointer none] 61)).heap.size=w.heap.size+1:=by simp
 have Dk:=bH w (.cells #[q 0,q 0,.pointer none] 61);generalize DP:w.alloc (.cells #[q 0,q 0,.pointer none] 61)=hz at *;have ahR:Below hz.heap.size hz (hz.alloc (.cells #[q 1,q 2] 58)):=cT;have jQ:Below w.heap.size w (hz.alloc (.cells #[q 1,q 2] 58)):=Below.fK kF ahR;have b3:(hz.alloc (.cells #[q 1,q 2] 58)).heap.size=hz.heap.size+1:=by simp
 have cK:=u (ahl s [1,2] _ _ (R.below jQ k0) (uh.made hz [1,2] #[q 1,q 2] rfl K) K);have ur:=u (Below.a8 ahR Dk);have ani:=u z0;have JS:=u b3;clear z0 b3;go_enter func24,ntmps24;go_upto_region 1 with fail;go_wp2_with fail;refine cK.d.mono ?_;rintro e J ⟨bJ,⟨cy,rfl⟩ | ⟨ts,t,x,hi,aY,r4,b7,rfl,fz⟩⟩
 ·have sZ:Hid (A1 (pq (uO j bd)) s=kq s [1,2]):=u (by unfold A1;rw[if_pos cy]);have aes:((kq s [1,2]:Int)==0)=false:=by rw[cV];omega
  have LC:=u cy;have ah:Below w.heap.size w J:=Below.fK jQ bJ;have dF:Below J.heap.size J (J.alloc (.cells #[q 0,q 0,.pointer none] 61)):=cT;have dT:Hid (Below w.heap.size w (J.alloc (.cells #[q 0,q 0,.pointer none] 61))):=u (Below.fK ah dF);have cX:=Below.a8 dF (Below.a8 bJ ur.d);have k6:(J.alloc (.cells #[q 0,q 0,.pointer none] 61)).cell? ⟨w.heap.size,0,none⟩=some (q 0):=Z cX (i:=0) rfl;have q1:(J.alloc (.cells #[q 0,q 0,.pointer none] 61)).cell? ⟨w.heap.size,1,none⟩=some (q 0):=Z cX (i:=1) rfl;have bN:(J.alloc (.cells #[q 0,q 0,.pointer none] 61)).cell? ⟨w.heap.size,2,none⟩=some (.pointer none):=Z cX (i:=2) rfl;have p0:=aQ (i:=0) cX;have p1:=aQ (i:=1) cX;have p2:=aQ (i:=2) cX
  clear cy bJ kF ahR jQ cK dF cX ah h1 H bi Dk ur;unfold ui;generalize kq s [1,2]=aB at *;go_upto_region 2 with fail;generalize J.alloc (.cells #[q 0,q 0,.pointer none] 61)=W at *;go_wp2_with fail;refine bodyPost_ret (v:=.tuple #[.agg #[q 0,q 0,.pointer none],q (aB:Int)]) (by simp[results,results24,go_sem, *]) rfl ⟨((dT.d.setCell (p:=⟨w.heap.size,0,none⟩) ap _).setCell (p:=⟨w.heap.size,1,none⟩) ap _).setCell (p:=⟨w.heap.size,2,none⟩) ap _,0,0,none,by rw[sZ.d],fun e=>?_⟩;rw[sZ.d] at e;exact absurd e LC.d
 ·have ah:Below w.heap.size w J:=Below.fK jQ bJ;have dF:Below J.heap.size J (J.alloc (.cells #[q (gq ts:Int),q (mM ts),M x] 61)):=cT;have fq:=bH J (.cells #[q (gq ts:Int),q (mM ts),M x] 61);have cg:=Below.fK ah dF;have cX:=Below.a8 dF (Below.a8 bJ ur.d);have eU:=Below.a8 cg aa;obtain⟨ko,mW⟩:=Xn b7 (Pq r4);obtain⟨tN,Cz⟩:=MX b7 (Pq r4);have hV:=(fz.kept (Lq dF));rw[JS.d,ani.d] at hV;clear fz;have avU:w.heap.size<J.heap.size:=by have:=bJ.size;rw[JS.d,ani.d] at this;omega
  go_upto_region 2 with fail;generalize arD:J.alloc (.cells #[q (gq ts:Int),q (mM ts),M x] 61)=W at *;generalize J.heap.size=aB at *;have Pa:Hid (∀aU:World,(∀(k:Nat) (cs:Array Value) (bp:TypeId),W.heap[k]?=some (.cells cs bp (0,0))->(bp=61\/bp=72)->aU.heap[k]?=some (.cells cs bp (0,0)))->(dp aU aB 0=some (q (gq ts:Int))/\dp aU aB 1=some (q (mM ts))/\dp aU aB 2=some (M x)/\dp aU b 0=some (.slice aC c6 bA)/\dp aU b 1=some (.slice b6 cj lc)/\dp aU b 2=some (.slice bt aX bD)/\dp aU b 3=some (q (j.count:Int)))/\(dp aU w.heap.size 0=some (q 0)/\dp aU w.heap.size 1=some (q 0)/\dp aU w.heap.size 2=some (.pointer none)/\aU.frozen? ⟨w.heap.size,0,none⟩=false/\aU.frozen? ⟨w.heap.size,1,none⟩=false/\aU.frozen? ⟨w.heap.size,2,none⟩=false)):=u (fun aU hk=>by
   have aI:=hk _ _ _ fq (.inl rfl);have aZ:=hk _ _ _ eU (.inr rfl);have a6:=hk _ _ _ cX (.inl rfl);exact⟨⟨Z aI (i:=0) rfl,Z aI (i:=1) rfl,Z aI (i:=2) rfl,Z aZ (i:=0) rfl,Z aZ (i:=1) rfl,Z aZ (i:=2) rfl,Z aZ (i:=3) rfl⟩,⟨Z a6 (i:=0) rfl,Z a6 (i:=1) rfl,Z a6 (i:=2) rfl,aQ (i:=0) a6,aQ (i:=1) a6,aQ (i:=2) a6⟩⟩)
  have anq:Hid (∀aU:World,Below W.heap.size W aU->(dp aU aB 0=some (q (gq ts:Int))/\dp aU aB 1=some (q (mM ts))/\dp aU aB 2=some (M x)/\dp aU b 0=some (.slice aC c6 bA)/\dp aU b 1=some (.slice b6 cj lc)/\dp aU b 2=some (.slice bt aX bD)/\dp aU b 3=some (q (j.count:Int)))/\(dp aU w.heap.size 0=some (q 0)/\dp aU w.heap.size 1=some (q 0)/\dp aU w.heap.size 2=some (.pointer none)/\aU.frozen? ⟨w.heap.size,0,none⟩=false/\aU.frozen? ⟨w.heap.size,1,none⟩=false/\aU.frozen? ⟨w.heap.size,2,none⟩=false)):=u (fun aU A=>Pa.d aU (fun k cs bp e _=>Below.a8 A e));obtain⟨⟨eR,l1,bT,hr,cN,bL,fS⟩,⟨k6,q1,bN,p0,p1,p2⟩⟩:=anq.d W (Below.refl _ _);have IA:=u cg;by_cases DV:mM ts<0
  ·have sZ:Hid (A1 (pq (uO j bd)) s=1):=u (by unfold A1;rw[if_neg (by rw[aY];decide),r4];exact if_pos DV);clear cg eU cX fq hV ko mW tN Cz Pa anq cK ur Dk h1 H bi ah dF bJ jQ kF ahR r4;go_wp2_with fail;refine bodyPost_ret (v:=.tuple #[.agg #[q 0,q 0,.pointer none],q 1]) (by simp[results,results24,go_sem, *]) rfl ⟨((IA.d.setCell (p:=⟨w.heap.size,0,none⟩) ap _).setCell (p:=⟨w.heap.size,1,none⟩) ap _).setCell (p:=⟨w.heap.size,2,none⟩) ap _,0,0,none,by rw[sZ.d];rfl,fun e=>?_⟩;rw[sZ.d] at e;cases e
  ·have sZ:Hid (A1 (pq (uO j bd)) s=pj (pq (uO j bd)) t):=u (by unfold A1;rw[if_neg (by rw[aY];decide),r4];exact if_neg DV);have ahn:(0:Int)<=mM ts:=r;have vz:Below W.heap.size W W.drew:=⟨rfl,rfl,rfl,ap,fun _ _=>rfl⟩;have H3:=u r4;have MZ:=u b7;have aq0:Hid (w.heap.size<=w.heap.size+1+1):=u r
   have Yv:Hid (ey 50 #[.agg #[.slice b6 cj lc,.slice bt aX bD,q (j.count:Int)]] W.drew fun e aA=>∃hI J0,e=.returned (.slice hI 2 J0)/\(dp aA aB 0=some (q (gq ts:Int))/\dp aA aB 1=some (q (mM ts))/\dp aA aB 2=some (M x)/\dp aA b 0=some (.slice aC c6 bA)/\dp aA b 1=some (.slice b6 cj lc)/\dp aA b 2=some (.slice bt aX bD)/\dp aA b 3=some (q (j.count:Int)))/\(dp aA w.heap.size 0=some (q 0)/\dp aA w.heap.size 1=some (q 0)/\dp aA w.heap.size 2=some (.pointer none)/\aA.frozen? ⟨w.heap.size,0,none⟩=false/\aA.frozen? ⟨w.heap.size,1,none⟩=false/\aA.frozen? ⟨w.heap.size,2,none⟩=false)/\Hid (Below W.heap.size W aA/\p3 (db F w) aA (.slice hI 2 J0) [Al j.log,Am j.ng])):=u (by
    have k7:=Below.fK IA.d vz;refine(apl (F:=db F w) _ _ (j.count:Int) _ _ W.drew (h1.move (dj.mP k7)) (H.move (dj.mP k7))).mono ?_;rintro e aA ⟨hI,J0,rfl,t1,t2⟩;have lM:Below W.heap.size W aA:=Below.fK vz t2;obtain⟨aI,aZ⟩:=anq.d aA lM;exact⟨hI,J0,rfl,aI,aZ,u ⟨lM,t1.move (dj.to fun k _ hk=>Xs k7.size k hk)⟩⟩)
   have Yw:Hid (∀(aA:World) (hI:Option Addr) (J0:Nat),Below W.heap.size W aA->p3 (db F w) aA (.slice hI 2 J0) [Al j.log,Am j.ng]->ey 49 #[.slice (some ⟨aA.heap.size,0,none⟩) 2 2] (aA.alloc (.cells #[.slice hI 2 J0,.slice aC c6 bA] 64)) fun e bI=>∃r0 O5 ac,e=.returned (.slice r0 O5 ac)/\(dp bI aB 0=some (q (gq ts:Int))/\dp bI aB 1=some (q (mM ts))/\dp bI aB 2=some (M x)/\dp bI b 0=some (.slice aC c6 bA)/\dp bI b 1=some (.slice b6 cj lc)/\dp bI b 2=some (.slice bt aX bD)/\dp bI b 3=some (q (j.count:Int)))/\(dp bI w.heap.size 0=some (q 0)/\dp bI w.heap.size 1=some (q 0)/\dp bI w.heap.size 2=some (.pointer none)/\bI.frozen? ⟨w.heap.size,0,none⟩=false/\bI.frozen? ⟨w.heap.size,1,none⟩=false/\bI.frozen? ⟨w.heap.size,2,none⟩=false)/\Hid (Below W.heap.size W bI/\p3 (db F w) bI (.slice r0 O5 ac) (uO j bd))):=u (fun aA hI J0 lM Yx=>by
    have dF:Below aA.heap.size aA (aA.alloc (.cells #[.slice hI 2 J0,.slice aC c6 bA] 64)):=cT;have Hs:=Below.fK IA.d lM;have PK:=Below.fK Hs dF;refine(apm (F:=db F w) (.slice hI 2 J0) (.slice aC c6 bA) _ bd aA.heap.size _ (Yx.move (fun k hk av=>⟨av,dF.block k hk⟩)) (bi.move (dj.mP PK)) (bH aA _) (by show 2+bd.length<=1000;omega)).mono ?_;rintro e bI ⟨r0,ac,rfl,u1,u2⟩;have iR:=Below.fK lM (Below.fK dF u2);obtain⟨aI,aZ⟩:=anq.d bI iR;exact⟨r0,_,ac,rfl,aI,aZ,u ⟨iR,u1.move (dj.to fun k _ hk=>Xs PK.size k hk)⟩⟩)
   have auU:Hid (∀(bI:World) (r0:Option Addr) (O5 ac:Nat),Below W.heap.size W bI->p3 (db F w) bI (.slice r0 O5 ac) (uO j bd)->ey 48 #[M x,.slice r0 O5 ac] bI fun e bh=>e=.returned (q (pj (pq (uO j bd)) t:Int))/\(dp bh aB 0=some (q (gq ts:Int))/\dp bh aB 1=some (q (mM ts))/\dp bh aB 2=some (M x)/\dp bh b 0=some (.slice aC c6 bA)/\dp bh b 1=some (.slice b6 cj lc)/\dp bh b 2=some (.slice bt aX bD)/\dp bh b 3=some (q (j.count:Int)))/\(dp bh w.heap.size 0=some (q 0)/\dp bh w.heap.size 1=some (q 0)/\dp bh w.heap.size 2=some (.pointer none)/\bh.frozen? ⟨w.heap.size,0,none⟩=false/\bh.frozen? ⟨w.heap.size,1,none⟩=false/\bh.frozen? ⟨w.heap.size,2,none⟩=false)/\Hid (Below w.heap.size w bh/\(pj (pq (uO j bd)) t=0->∃td,oJ td (uO j bd)/\dK td bh t [] (w.heap.size+1+1) hi [M x])/\∃cs,bh.heap[w.heap.size]?=some (.cells cs 61 (0,0)))):=u (fun bI r0 O5 ac iR Yy=>by
    obtain⟨td,g1,g2⟩:=Yy.B (fun t au=>by
     unfold uO at au;rcases List.mem_append.1 au with au | au
     ·rcases List.mem_cons.1 au with rfl | au
      ·show 3<=4;omega
      ·obtain rfl:=ic au;show 3<=4;omega
     ·exact xP t au)
    have hrel:=ano g2;have ut:pj td t=pj (pq (uO j bd)) t:=(ann hrel.1 hrel.2 t).symm;refine(ah5 td t x (w.heap.size+1+1) hi _ bI ko (hV.kept (Lq iR)) g1 r).mono ?_;rintro e bh ⟨rfl,bM,b9⟩;rw[ut] at b9 ⊢;obtain⟨aI,aZ⟩:=Pa.d bh (fun k cs bp e hu=>bM.other (Below.a8 iR e) (by rcases hu with rfl | rfl<;>decide) (by rcases hu with rfl | rfl<;>decide) (by rcases hu with rfl | rfl<;>decide));exact⟨rfl,aI,aZ,u ⟨am7 (Below.fK IA.d iR) bM aq0.d (Below.fK IA.d iR).size,fun e=>⟨td,g2,b9 e⟩,_,bM.other (Below.a8 iR cX) K K K⟩⟩)
   have hA1:¬aB=w.heap.size:=r;have hA2:¬w.heap.size=aB:=r;have avV:¬b=w.heap.size:=r;have avW:¬w.heap.size=b:=r;clear cg eU cX fq hV ko mW tN Cz Pa anq cK ur Dk h1 H bi ah dF bJ jQ kF ahR r4 b7 vz;generalize pj (pq (uO j bd)) t=r5 at *;go_upto_region 6 with fail
   go_region_held3 (fun w'=>(w'.cell? ⟨aB,0,none⟩=some (q (gq ts:Int))/\w'.cell? ⟨aB,1,none⟩=some (q (mM ts))/\w'.cell? ⟨aB,2,none⟩=some (M x)/\w'.cell? ⟨b,0,none⟩=some (.slice aC c6 bA)/\w'.cell? ⟨b,1,none⟩=some (.slice b6 cj lc)/\w'.cell? ⟨b,2,none⟩=some (.slice bt aX bD)/\w'.cell? ⟨b,3,none⟩=some (q (j.count:Int)))) (go_keep) (first | (go_at_call 48;refine(auU.d bI r0 O5 ac JT.d.1 JT.d.2).mono ?_;rintro e bh ⟨rfl,⟨c7,Y,am,bm,hq,ol,s8⟩,⟨gm,aI,aZ,a6,dt,e8⟩,Yz⟩) | (go_at_call 49;refine(Yw.d aA hI J0 JU.d.1 JU.d.2).mono ?_;rintro e bI ⟨r0,O5,ac,rfl,⟨d0,d1,d2,d3,d4,d5,d6⟩,⟨i0,i1,i2,i3,i4,i5⟩,JT⟩) | (go_at_call 50;refine Yv.d.mono ?_;rintro e aA ⟨hI,J0,rfl,⟨bk,c1,c2,dZ,gp,fO,jy⟩,⟨g0,g1,g2,g3,g4,g5⟩,JU⟩));all_goals go_wp2_with fail
   all_goals
    refine bodyPost_ret (v:=.tuple #[.agg #[q (gq ts:Int),q (mM ts),M x],q (r5:Int)]) (by simp[results,results24,go_sem, *]) rfl ?_;obtain⟨bM,b9,avX,ag⟩:=Yz.d;refine⟨((bM.setCell (p:=⟨w.heap.size,0,none⟩) ap _).setCell (p:=⟨w.heap.size,1,none⟩) ap _).setCell (p:=⟨w.heap.size,2,none⟩) ap _,_,_,_,by rw[sZ.d],fun e=>?_⟩;rw[sZ.d] at e;obtain⟨td,m1,m2⟩:=b9 e;have key:∀(k:Nat) (cs:Array Value) (bp:TypeId) (m:Nat×Nat),bh.heap[k]?=some (.cells cs bp m)->bp≠61->k≠w.heap.size:=by rintro k cs bp m e hu rfl;rw[ag] at e;injection e with e;injection e with _ e;exact hu e.symm
    have c4:∀k,k≠w.heap.size->(((bh.setCell ⟨w.heap.size,0,none⟩ (q (gq ts:Int))).setCell ⟨w.heap.size,1,none⟩ (q (mM ts))).setCell ⟨w.heap.size,2,none⟩ (M x)).heap[k]?=bh.heap[k]?:=fun k hk=>by rw[Below.heap_setCell _ _ _ k hk,Below.heap_setCell _ _ _ k hk,Below.heap_setCell _ _ _ k hk]
    refine⟨ts,t,x,_,hi,td,H3.d,MZ.d,rfl,rfl,aq0.d,rfl,m1,m2.a8 (fun k cs m e _ _=>(c4 k (key k _ _ _ e K)).trans e) (fun k cs m e6 au e=>(c4 k (key k _ _ _ e (by rcases au with rfl | rfl | rfl<;>decide))).trans e)⟩
