import Derived.Test.YtjebdgbpopolkaaGreatDoorM038
set_option maxHeartbeats 0
set_option maxRecDepth 100000
set_option linter.all false
namespace Go.Proofs.YtjebdgbpopolkaaGreatDoor
open Tryz
open Go.RowKit Go.Sort Go.Shelf
open bS
variable{W w:World}{v:Value}{out:List l7}{aB b c c2 n b9:Nat}{cs:Array Value}{t:aL}{F L:Nat->Prop}{j:qh}{a a2:Option Addr}{s:ni}{ts:e4}{td:List eb}{eH:e6}
def fW.set{base:Nat}(h:fW base w v out){t:TypeId}(A:w.heap[b]?=some (.cells cs t (0,0)))(bM:t≠37)(b9:t≠9)(dm:t≠40)(i:Nat)(x:Value):fW base (w.setCell ⟨b,i,none⟩ x) v out:=by obtain⟨bE,h1,H,ab⟩:=h;exact⟨bE,vO h1 A bM,H,fun k a c=>⟨vO (ab k a c).1 A b9,vO (ab k a c).2 A dm⟩⟩
structure oP (w:World) (b:Nat) (cs:Array Value) (L:Nat->Prop) (j:qh) (v:Value) (out:List l7) (aB:Nat) (a a2:Option Addr) (n c b9 c2:Nat) (W:World):Prop where
 st:jC w b cs W
 at_:W.heap[aB]?=some (.cells #[.slice a n c,.slice a2 b9 c2,q (j.count:Int)] 62 (0,0))
 new:w.heap.size<=aB
 log:fB L W (.slice a n c) j.log
 Py:fB L W (.slice a2 b9 c2) j.ng
 XU:fW 0 W v out
def oP.laid(cv:jC w b cs W)(h1:fB L W (.slice a n c) j.log)(H:fB L W (.slice a2 b9 c2) j.ng)(ct:fW 0 W v out):oP w b cs L j v out W.heap.size a a2 n c b9 c2 (W.alloc (.cells #[.slice a n c,.slice a2 b9 c2,q (j.count:Int)] 62)):=by have A:=(Below.refl W.heap.size W).alloc ap (.cells #[.slice a n c,.slice a2 b9 c2,q (j.count:Int)] 62);exact⟨cv.below A,bH W _,cv.ho.size,h1.below A,H.below A,ct.below A⟩
def jC.set{ds:Array Value}{i:Nat}{t:TypeId}(cv:jC w b cs W)(cr:W.heap[aB]?=some (.cells ds t (0,0)))(bM:t≠67)(b9:t≠30)(X:w.heap.size<=aB)(x:Value):jC w b cs (W.setCell ⟨aB,i,none⟩ x):=⟨cv.ho.setCell (p:=⟨aB,i,none⟩) X x,uI x cr cv.bQ bM,uI x cr cv.up b9⟩
def oP.yP(cv:jC w b cs W)(cr:W.heap[aB]?=some (.cells #[.slice none 0 0,.slice none 0 0,q 0] 62 (0,0)))(X:w.heap.size<=aB)(h1:fB L W (.slice a n c) j.log)(H:fB L W (.slice a2 b9 c2) j.ng)(ct:fW 0 W v out):oP w b cs L j v out aB a a2 n c b9 c2 (((W.setCell ⟨aB,0,none⟩ (.slice a n c)).setCell ⟨aB,1,none⟩ (.slice a2 b9 c2)).setCell ⟨aB,2,none⟩ (q (j.count:Int))):=by
 have aI:=hc (o:=0) cr (.slice a n c);have aZ:=hc (o:=1) aI (.slice a2 b9 c2);refine⟨((cv.set cr K K X _).set aI K K X _).set aZ K K X _,hc aZ _,X,?_,?_,?_⟩
 ·exact((h1.set cr K K _ _).set aI K K _ _).set aZ K K _ _
 ·exact((H.set cr K K _ _).set aI K K _ _).set aZ K K _ _
 ·exact((ct.set cr K K K _ _).set aI K K K _ _).set aZ K K K _ _
def oP.below{w:World}{b:Nat}{cs:Array Value}{L:Nat->Prop}{j:qh}{v:Value}{out:List l7}{aB:Nat}{a a2:Option Addr}{n c b9 c2:Nat}{W aU:World}(h:oP w b cs L j v out aB a a2 n c b9 c2 W)(A:eB W aU):oP w b cs L j v out aB a a2 n c b9 c2 aU:=⟨h.st.below A,Below.a8 A h.at_,h.new,h.log.below A,h.Py.below A,h.XU.below A⟩
def aow{c:Nat->Nat}{b6 bt pa:Option Addr}{cj lc aX bD pn pc:Nat}{k:Nat}(b5:8<=w.heap.size)(aw:∀k,F k->oN w k/\8<=k)(h1:h2 (eT F c 0) w b ⟨.slice b6 cj lc,.slice bt aX bD,q (s.ce.count:Int),.slice pa pn pc,q (s.last:Int)⟩ s.ck)(aK:eg (eT F c 2) w 124 5 (.slice pa pn pc) s.nj.length (s.nj.flatMap xi))(bi:oP w b cs (db (eT F c 1) w) j v out aB a a2 n k b9 c2 W):fW 0 (((((W.setCell ⟨b,1,none⟩ (.slice a n k)).setCell ⟨b,2,none⟩ (.slice a2 b9 c2)).setCell ⟨b,3,none⟩ (q (j.count:Int))).setCell ⟨w.heap.size,0,none⟩ v).setCell ⟨w.heap.size,1,none⟩ (q 0)) v out/\vE F w b {s with ce:=j} (((((W.setCell ⟨b,1,none⟩ (.slice a n k)).setCell ⟨b,2,none⟩ (.slice a2 b9 c2)).setCell ⟨b,3,none⟩ (q (j.count:Int))).setCell ⟨w.heap.size,0,none⟩ v).setCell ⟨w.heap.size,1,none⟩ (q 0)):=by
 have A:=bi.st.ho;have Pz:F b/\c b=0:=by obtain⟨e7,aE,bs,_,bw,_⟩:=id h1;exact bw.1.1
 have bc:b<w.heap.size:=by obtain⟨⟨cs,t,m,e,_⟩,_⟩:=aw b Pz.1;exact jq e
 have c7:=bi.st.bQ;have c3:=bi.st.up;have Y:=hc (o:=1) c7 (.slice a n k);have am:=hc (o:=2) Y (.slice a2 b9 c2);have cX:((W.setCell ⟨b,1,none⟩ (.slice a n k)).setCell ⟨b,2,none⟩ (.slice a2 b9 c2)).setCell ⟨b,3,none⟩ (q (j.count:Int)) |>.heap[w.heap.size]?=some (.cells #[.slice none 0 0,q 0] 30 (0,0)):=uI _ am (uI _ Y (uI _ c7 c3 K) K) K;have cA:=hc (o:=0) cX v;refine⟨((((bi.XU.set c7 K K K _ _).set Y K K K _ _).set am K K K _ _).set cX K K K _ _).set cA K K K _ _,?_⟩;have aox:fB (db (eT F c 1) w) _ (.slice a n k) j.log:=((((bi.log.set c7 K K 1 (.slice a n k)).set Y K K 2 (.slice a2 b9 c2)).set am K K 3 (q (j.count:Int))).set cX K K 0 v).set cA K K 1 (q 0)
 have aoy:fB (db (eT F c 1) w) _ (.slice a2 b9 c2) j.ng:=((((bi.Py.set c7 K K 1 (.slice a n k)).set Y K K 2 (.slice a2 b9 c2)).set am K K 3 (q (j.count:Int))).set cX K K 0 v).set cA K K 1 (q 0);obtain⟨eU,iu⟩:=(h1.move (F':=eT F c 0) (fun k hk av=>⟨av,A.block k hk⟩)).anz (.slice a n k) (.slice a2 b9 c2) (q (j.count:Int));generalize qc:((W.setCell ⟨b,1,none⟩ (.slice a n k)).setCell ⟨b,2,none⟩ (.slice a2 b9 c2)).setCell ⟨b,3,none⟩ (q (j.count:Int))=dB at *;have qQ:da (fun U=>U=w.heap.size) dB (dB.setCell ⟨w.heap.size,0,none⟩ v):=da.set _ 0 _ rfl;have k3:da (fun U=>U=w.heap.size) (dB.setCell ⟨w.heap.size,0,none⟩ v) ((dB.setCell ⟨w.heap.size,0,none⟩ v).setCell ⟨w.heap.size,1,none⟩ (q 0)):=da.set _ 1 _ rfl;have vp:=qQ.trans' k3 (fun _ _ e=>e)
 generalize (dB.setCell ⟨w.heap.size,0,none⟩ v).setCell ⟨w.heap.size,1,none⟩ (q 0)=jx at *;have yv:W.heap.size<=dB.heap.size:=iu.size;have Iy:∀U,U<w.heap.size->U≠b->jx.heap[U]?=w.heap[U]?:=fun U ae ar=>by have H:U<W.heap.size:=e0 ae A.size;rw[vp.block U (e0 H yv) (fun e=>r),iu.block U H ar,A.block U ae]
 have aoz:h2 (eT F c 0) jx b _ s.ck:=eU.move (fun U ae av=>⟨av,vp.block U ae (fun e=>by
  obtain⟨⟨cs,t,m,bo,_⟩,_⟩:=aw U av.1;have:=jq bo;omega)⟩)
 have aoA:eg (eT F c 2) jx 124 5 (.slice pa pn pc) s.nj.length (s.nj.flatMap xi):=aK.move (fun U ae av=>⟨av,Iy U ae (fun e=>by
  have:=av.2;rw[e,Pz.2] at this;cases this)⟩)
 refine⟨fun U=>db F w U/\oN jx U,⟨fun U ae=>⟨ae.2,?_⟩,va c w 1,a,a2,pa,n,k,b9,c2,pn,pc,?_,?_,?_,?_⟩,fun U ae=>?_,⟨vp.os.trans (iu.os.trans A.os),vp.tape.trans (iu.tape.trans A.tape),vp.output.trans (iu.output.trans A.output),bX A.size (bX yv vp.size),fun U ae ar=>Iy U ae (fun e=>ar (e▸Pz.1))⟩⟩
 ·rcases ae.1 with⟨_,h⟩ | h
  ·exact(aw U h).2
  ·omega
 ·refine aoz.jW.move (dj.to fun U _ ae=>?_);have jz:U<w.heap.size:=by obtain⟨⟨cs,t,m,bo,_⟩,_⟩:=aw U ae.1.1;exact jq bo
  exact⟨⟨db.fH jz ae.1.1,ae.2⟩,by unfold va;rw[if_pos jz];exact ae.1.2⟩
 ·exact aox.jW.move (dj.to fun U _ ae=>⟨⟨(zL ae.1).1,ae.2⟩,(zL ae.1).2⟩)
 ·exact aoy.jW.move (dj.to fun U _ ae=>⟨⟨(zL ae.1).1,ae.2⟩,(zL ae.1).2⟩)
 ·refine(aoA.jW (by simp[oM])).move (dj.to fun U _ ae=>?_);have jz:U<w.heap.size:=by obtain⟨⟨cs,t,m,bo,_⟩,_⟩:=aw U ae.1.1;exact jq bo
  exact⟨⟨db.fH jz ae.1.1,ae.2⟩,by unfold va;rw[if_pos jz];exact ae.1.2⟩
 ·rcases ae.1 with⟨_,h⟩ | h
  ·exact .inl h
  ·exact .inr h
def JA(F:Nat->Prop)(w:World)(b:Nat)(C:XH)(e:Ending)(w':World):Prop:=∃a n c,e=.returned (.tuple #[.agg #[.slice a n c,q (C.Jt:Int)],q (C.qk:Int)])/\fW 0 w' (.slice a n c) C.out/\vE F w b C.FX w'
def vE.same{w':World}(h:nH F w b s)(A:Below w.heap.size w w'):vE F w b s w':=⟨F,h.aside (G:=fun _=>False) ⟨A.os,A.tape,A.output,A.size,fun k hk _=>A.block k hk⟩ (fun _ _=>id),fun k hk=>.inl hk,⟨A.os,A.tape,A.output,A.size,fun k hk _=>A.block k hk⟩⟩
def aoB(w:World):fW 0 w (.slice none 0 0) []:=⟨[],World.ownsRow_nil _ _ _ _,rfl,fun i h=>absurd h (fp _)⟩
def aoC{s:e6}(h:hC s=some (ts,t)):ts.length<=400:=by
 unfold hC at h;split at h
 ·rename_i aK;obtain⟨l,h1,h⟩:=aV h;obtain⟨x,H,h⟩:=aV h;split at h
  ·injection h with h;injection h with Y am;subst Y;have:=MY (s:=s) (ts:=l.map fun x=>(⟨x.toArray⟩:e6)) (by
    rw[h1,List.map_map];congr 1;conv=>lhs;rw[<-List.map_id l]
    exact List.map_congr_left (fun t _=>by simp))
   omega
  ·cases h
 ·cases h
def PA(ae:hN td eH=0)(ag:hC eH=some (ts,t)):aJ t 2/\mr t/\3*nq t<=900/\(∃e wh g hv,t=.query e (eM t) wh g hv)/\(eM t).length<=3:=by
 obtain⟨ko,mW⟩:=Xn (aoC ag) (Pq ag);have ut:pj td t=0:=by
  unfold hN at ae;split at ae
  ·rename_i h;exact absurd ae h
  ·rw[ag] at ae;exact ae
 have ou:eh td [] t=true/\h6 t=false:=by
  unfold pj at ut;split at ut
  ·rename_i h;refine⟨h,?_⟩;split at ut
   ·cases ut
   ·rename_i H;simpa using H
  ·cases ut
 refine⟨ko,yO t 2 [] ko ou.1 ou.2,by have lq:2*nq t<=400:=mW;omega,?_⟩;cases t with
 | query e V wh g hv=>refine⟨⟨e,wh,g,hv,rfl⟩,?_⟩;have:=ou.1;rw[eh,Bool.and_eq_true] at this;exact of_decide_eq_true this.1
 | nil=>simp[aJ] at ko
 | cons=>simp[aJ] at ko
 | node=>simp[aJ] at ko
def q_in{bd:List bG}{O:Int}{lo hi x:Nat}{aE:Value}(ae:hN td eH=0)(ag:hC eH=some (ts,t))(hrel:oJ td bd)(wS:nW bd)(bM : -1000000000000<=O)(b9:O<=1000000000000)(aj:dK td W t [] lo hi [M x])(au:p3 F W aE bd)(R:Ground W):uG (fun k=>k<W.heap.size) td bd O t lo hi x aE W:=by obtain⟨h1,H,ab,_⟩:=PA ae ag;exact⟨wS,hrel,bM,b9,h1,H,ab,R.vC.lt,R.vC,aj,au.inside,fun k hk=>hk⟩
def apq(s:ni)(cU eH:e6)(j:qh):Prop:=∃td ts t out,oJ td s.ck.bY/\hN td eH=0/\hC eH=some (ts,t)/\oK s.ck.bY s.ck.dS (eM t) t=some out/\s.ce.count<60/\jf cU.data.toList=true/\j=nh cU s.ck.dS (hj (out.map (·.2))) s.ce
def XV{N:Nat}(f:qh->n9->Bool)(h:nH F w b s)(ok:hA N s.ck)(fit:lw s.ck)(dh:Ground w)(cU eH:e6)(hu:cU.size<=1000000)(oE:s.ce.log.length<=10000)(kv:s.ce.ng.length<=800000)(wq:s.ce.count<=1000000)(mn:s.nj.length<=1000)(hF:∀p∈s.nj,∀(W:World) (b6 bt hM:Option Addr) (cj lc aX bD CM nd:Nat) (uf:qh),Below w.heap.size w W->fB (fun k=>k<W.heap.size) W (.slice b6 cj lc) uf.log->fB (fun k=>k<W.heap.size) W (.slice bt aX bD) uf.ng->p3 (fun k=>k<W.heap.size) W (.slice hM CM nd) s.ck.bY->apq s cU eH uf->ey 51 #[Xu p,.agg #[.slice b6 cj lc,.slice bt aX bD,q (uf.count:Int)],.slice hM CM nd,q s.ck.dS] W (gU W (.bool (f uf p)))):ey 7 #[M b,.string cU,.string eH] w (JA F w b (gE f s cU eH)):=by
 have b5:=dh.uJ.js;have nv:Hid (∀W (oC xk:Nat),Below w.heap.size w W->JA F w b ⟨oC,xk,[],s⟩ (.returned (.tuple #[.agg #[.slice none 0 0,q (xk:Int)],q (oC:Int)])) W):=u (fun W oC xk A=>⟨none,0,0,rfl,aoB W,vE.same h A⟩);obtain⟨aw,c,b6,bt,pa,cj,lc,aX,bD,pn,pc,h1,H,ab,aK⟩:=id h;obtain⟨aE,rh,aoD,lX⟩:=h1.bd ok;obtain⟨td,CR,hrel⟩:=lX.B (fun t au=>(ok.B t au).gp);obtain⟨aC,c6,bA,rfl⟩:∃aC c6 bA,aE=.slice aC c6 bA:=by obtain⟨bs,_,C,_⟩:=lX;obtain⟨a,c,e⟩:=cG C.1;exact⟨a,_,c,e⟩
 have bc:=jq rh;have iD:Below w.heap.size w (w.alloc (.cells #[.slice none 0 0,q 0] 30)):=cT;have sF:jC w b #[.slice aC c6 bA,.slice b6 cj lc,.slice bt aX bD,q (s.ce.count:Int),.slice pa pn pc,q (s.last:Int),q s.ck.dS] (w.alloc (.cells #[.slice none 0 0,q 0] 30)):=⟨iD,oL _ rh,bH w _⟩;have xl:Hid (∀W,ey 18 #[.string cU] W (ov W (.bool (jf cU.data.toList)))):=u (fun W=>Kf cU W (bX hu K));have AP:Hid (ey 19 #[M b,.string eH] (w.alloc (.cells #[.slice none 0 0,q 0] 30)) (Xo td eH (w.alloc (.cells #[.slice none 0 0,q 0] 30)))):=u (am8 eH td b aC c6 bA _ (dh.below iD).uJ (Z sF.bQ (i:=0) rfl) (jq sF.bQ) ⟨_,sF.bQ⟩ (CR.heap iD));have sZ:Hid (hN (pq s.ck.bY) eH=hN td eH):=u (anp hrel eH).symm;have AQ:=u sF
 have my:=u iD;unfold gE;rw[sZ.out];by_cases fF:cU.data.toList=[]\/jf cU.data.toList=false
 ·rw[if_pos fF];have bK:=u (nv.out _ 9 0 iD);clear nv h h1 H ab aK aw lX CR hrel rh sF AP AQ my hF ok fit dh sZ iD;by_cases qq:cU.data.toList=[]
  ·obtain rfl:cU=⟨#[]⟩:=ZX qq;go_enter func7,ntmps7;go_wp2_with (go_at_call 18;refine(xl.out _).mono ?_;rintro e w' ⟨rfl,rfl⟩);refine bodyPost_ret (v:=.tuple #[.agg #[.slice none 0 0,q 0],q 9]) (by simp[results,results7,go_sem, *]) rfl bK.out
  ·have hw:jf cU.data.toList=false:=by rcases fF with h | h;exact absurd h qq;exact h
   have xx:cU.toList.isEmpty=false:=by
    rw[ByteArray.toList_eq];cases X:cU.data.toList with
    | nil=>exact absurd X qq
    | cons a C=>rfl
   have QA:¬cU.toList=[]:=by intro e;rw[e] at xx;cases xx
   rw[hw] at xl;clear fF hw qq;go_enter func7,ntmps7;go_wp2_with (go_at_call 18;refine(xl.out _).mono ?_;rintro e w' ⟨rfl,rfl⟩);refine bodyPost_ret (v:=.tuple #[.agg #[.slice none 0 0,q 0],q 9]) (by simp[results,results7,go_sem, *]) rfl bK.out
 ·rw[if_neg fF];have hw:jf cU.data.toList=true:=by
   cases aa:jf cU.data.toList with
   | true=>rfl
   | false=>exact absurd (.inr aa) fF
  have qq:¬cU.data.toList=[]:=fun e=>fF (.inl e);have xx:cU.toList.isEmpty=false:=by
   rw[ByteArray.toList_eq];cases X:cU.data.toList with
   | nil=>exact absurd X qq
   | cons a C=>rfl
  have QA:¬cU.toList=[]:=by intro e;rw[e] at xx;cases xx
  rw[hw] at xl;have wt:Hid (∀W (oC xk:Nat),Below w.heap.size w W->JA F w b ⟨oC,xk,[],s⟩ (.returned (.tuple #[.agg #[.slice none 0 0,q (xk:Int)],q (oC:Int)])) ((W.setCell ⟨w.heap.size,0,none⟩ (.slice none 0 0)).setCell ⟨w.heap.size,1,none⟩ (q (xk:Int)))):=u (fun W oC xk A=>nv.out _ oC xk ((A.setCell (p:=⟨w.heap.size,0,none⟩) ap _).setCell (p:=⟨w.heap.size,1,none⟩) ap _));have yS:Hid (∀W,jC w b #[.slice aC c6 bA,.slice b6 cj lc,.slice bt aX bD,q (s.ce.count:Int),.slice pa pn pc,q (s.last:Int),q s.ck.dS] W->(dp W w.heap.size 0=some (.slice none 0 0)/\dp W w.heap.size 1=some (q 0))/\(W.frozen? ⟨w.heap.size,0,none⟩=false/\W.frozen? ⟨w.heap.size,1,none⟩=false)):=u (fun W cv=>⟨⟨Z cv.up (i:=0) rfl,Z cv.up (i:=1) rfl⟩,⟨aQ cv.up,aQ cv.up⟩⟩)
  by_cases AR:hN td eH≠0
  ·rw[if_pos AR];have FB:((hN td eH:Int)==0)=false:=by rw[cV];omega
   have kL:¬(hN td eH:Int)=0:=r;have cK:Hid (ey 19 #[M b,.string eH] (w.alloc (.cells #[.slice none 0 0,q 0] 30)) fun e J=>∃rS,e=.returned (.tuple #[rS,q (hN td eH:Int)])/\((dp J w.heap.size 0=some (.slice none 0 0)/\dp J w.heap.size 1=some (q 0))/\(J.frozen? ⟨w.heap.size,0,none⟩=false/\J.frozen? ⟨w.heap.size,1,none⟩=false))/\Hid (Below w.heap.size w J)):=u (AP.out.mono (by
    rintro e J ⟨bJ,rS,rfl,-⟩;have cv:=AQ.out.below bJ;exact⟨rS,rfl,yS.out J cv,u cv.ho⟩))
   clear nv h h1 H ab aK aw lX CR hrel rh sF AP AQ my hF ok fit dh sZ iD fF hw qq yS AR;generalize hN td eH=Q at *;go_enter func7,ntmps7;go_wp2_with (first | (go_at_call 19;refine cK.out.mono ?_;rintro e J ⟨rS,rfl,⟨⟨c3,cX⟩,⟨cA,AV⟩⟩,bw⟩) | (go_at_call 18;refine(xl.out _).mono ?_;rintro e w' ⟨rfl,rfl⟩));refine bodyPost_ret (v:=.tuple #[.agg #[.slice none 0 0,q 0],q (Q:Int)]) (by simp[results,results7,go_sem, *]) rfl (wt.out J Q 0 bw.out)
  ·rw[if_neg AR];have vG:hN td eH=0:=by simpa using AR
   obtain⟨ts,t,r4⟩:∃ts t,hC eH=some (ts,t):=by
    cases aa:hC eH with
    | none=>
     have:kq eH [0]=1:=by unfold kq;rw[aa]
     unfold hN at vG;rw[if_pos (by rw[this];decide),this] at vG;cases vG
    | some x=>exact⟨x.1,x.2,rfl⟩
   rw[r4];simp only[];have cK:Hid (ey 19 #[M b,.string eH] (w.alloc (.cells #[.slice none 0 0,q 0] 30)) fun e J=>∃x,e=.returned (.tuple #[M x,q 0])/\(dp J b 0=some (.slice aC c6 bA)/\dp J b 1=some (.slice b6 cj lc)/\dp J b 2=some (.slice bt aX bD)/\dp J b 3=some (q (s.ce.count:Int))/\dp J b 6=some (q s.ck.dS))/\Hid (jC w b #[.slice aC c6 bA,.slice b6 cj lc,.slice bt aX bD,q (s.ce.count:Int),.slice pa pn pc,q (s.last:Int),q s.ck.dS] J/\Ground J/\∃lo hi,uG (fun k=>k<J.heap.size) td s.ck.bY s.ck.dS t lo hi x (.slice aC c6 bA) J)):=u (AP.out.mono (by
    rintro e J ⟨bJ,rS,rfl,aa⟩;obtain⟨atq,ne,x,lo,hi,Y,am,_,rfl,aj⟩:=aa vG;rw[r4] at Y;injection Y with Y;injection Y with Y bm;subst Y bm;have cv:=AQ.out.below bJ;have uw:=dh.below cv.ho;have ae:=q_in vG r4 hrel (fit.B ok) (by have:=ok.zN;omega) ok.ya aj (lX.move (fun k hk av=>⟨av,cv.ho.block k hk⟩)) uw;exact⟨x,by rw[vG];rfl,⟨Z cv.bQ (i:=0) rfl,Z cv.bQ (i:=1) rfl,Z cv.bQ (i:=2) rfl,Z cv.bQ (i:=3) rfl,Z cv.bQ (i:=6) rfl⟩,u ⟨cv,uw,lo,hi,ae⟩⟩))
   obtain⟨ko,CS,_,⟨aoE,aoF,aoG,aoH,r7⟩,iu⟩:=PA vG r4;have vH:Hid (∀W,jC w b #[.slice aC c6 bA,.slice b6 cj lc,.slice bt aX bD,q (s.ce.count:Int),.slice pa pn pc,q (s.last:Int),q s.ck.dS] W->(dp W b 0=some (.slice aC c6 bA)/\dp W b 1=some (.slice b6 cj lc)/\dp W b 2=some (.slice bt aX bD)/\dp W b 3=some (q (s.ce.count:Int))/\dp W b 6=some (q s.ck.dS))):=u (fun W cv=>⟨Z cv.bQ (i:=0) rfl,Z cv.bQ (i:=1) rfl,Z cv.bQ (i:=2) rfl,Z cv.bQ (i:=3) rfl,Z cv.bQ (i:=6) rfl⟩)
   have xj:Hid (∀J x,jC w b #[.slice aC c6 bA,.slice b6 cj lc,.slice bt aX bD,q (s.ce.count:Int),.slice pa pn pc,q (s.last:Int),q s.ck.dS] J->(∃lo hi,uG (fun k=>k<J.heap.size) td s.ck.bY s.ck.dS t lo hi x (.slice aC c6 bA) J)->ey 20 #[M x,.slice aC c6 bA,q s.ck.dS] J.drew fun e S=>jC w b #[.slice aC c6 bA,.slice b6 cj lc,.slice bt aX bD,q (s.ce.count:Int),.slice pa pn pc,q (s.last:Int),q s.ck.dS] S/\match oK s.ck.bY s.ck.dS (eM t) t with
     | none=>e=.returned (.tuple #[.slice none 0 0,.bool false])
     | some out=>∃v,e=.returned (.tuple #[v,.bool true])/\fW 0 S v out):=u (fun J x cv ik=>by
    obtain⟨lo,hi,ik⟩:=ik;have vz:Below J.heap.size J J.drew:=⟨rfl,rfl,rfl,ap,fun _ _=>rfl⟩;have XW:=ik.below vz;rw[r7] at XW;have b1:=amP J.drew XW;rw[<-r7] at b1;refine b1.mono ?_;rintro e S ⟨A,hm⟩;refine⟨(cv.below vz).below A,?_⟩;cases xm:oK s.ck.bY s.ck.dS (eM t) t with
    | none=>rw[xm] at hm;exact hm
    | some out=>rw[xm] at hm;obtain⟨v,Y,am⟩:=hm;exact⟨v,Y,am.low bu⟩)
   cases xm:oK s.ck.bY s.ck.dS (eM t) t with
   | none=>
    rw[xm] at xj;have gJ:Hid (∀J x,jC w b #[.slice aC c6 bA,.slice b6 cj lc,.slice bt aX bD,q (s.ce.count:Int),.slice pa pn pc,q (s.last:Int),q s.ck.dS] J->(∃lo hi,uG (fun k=>k<J.heap.size) td s.ck.bY s.ck.dS t lo hi x (.slice aC c6 bA) J)->ey 20 #[M x,.slice aC c6 bA,q s.ck.dS] J.drew fun e S=>e=.returned (.tuple #[.slice none 0 0,.bool false])/\(dp S b 0=some (.slice aC c6 bA)/\dp S b 1=some (.slice b6 cj lc)/\dp S b 2=some (.slice bt aX bD)/\dp S b 3=some (q (s.ce.count:Int))/\dp S b 6=some (q s.ck.dS))/\((dp S w.heap.size 0=some (.slice none 0 0)/\dp S w.heap.size 1=some (q 0))/\(S.frozen? ⟨w.heap.size,0,none⟩=false/\S.frozen? ⟨w.heap.size,1,none⟩=false))/\Hid (Below w.heap.size w S)):=u (fun J x cv ik=>(xj.out J x cv ik).mono (by
     rintro e S ⟨r8,rfl⟩;exact⟨rfl,vH.out S r8,yS.out S r8,u r8.ho⟩))
    clear nv h h1 H ab aK aw lX CR hrel rh sF AP AQ my hF ok fit dh sZ iD fF hw qq yS AR vH xj xm r7 ko CS r4 vG;simp only[];generalize s.ck.dS=r5 at *;go_enter func7,ntmps7;go_upto_region 6 with(first | (go_at_call 19;refine cK.out.mono ?_;rintro e J ⟨x,rfl,⟨a0,bq,a2,a3,a4⟩,jd⟩) | (go_at_call 18;refine(xl.out _).mono ?_;rintro e w' ⟨rfl,rfl⟩));go_region_held3 (fun w'=>w'.cell? ⟨b,0,none⟩=some (.slice aC c6 bA)/\w'.cell? ⟨b,1,none⟩=some (.slice b6 cj lc)/\w'.cell? ⟨b,2,none⟩=some (.slice bt aX bD)/\w'.cell? ⟨b,3,none⟩=some (q (s.ce.count:Int))/\w'.cell? ⟨b,6,none⟩=some (q r5)) (go_keep) (first | (go_at_call 20;refine(gJ.out J x jd.out.1 jd.out.2.2).mono ?_;rintro e S ⟨rfl,⟨hr,cN,bL,fS,jg⟩,⟨⟨c3,cX⟩,⟨cA,AV⟩⟩,bw⟩));all_goals go_wp2_with fail
    all_goals refine bodyPost_ret (v:=.tuple #[.agg #[.slice none 0 0,q 0],q 6]) (by simp[results,results7,go_sem, *]) rfl (wt.out S 6 0 bw.out)
   | some out=>
    rw[xm] at xj;simp only[] at xj ⊢;have gJ:Hid (∀J x,jC w b #[.slice aC c6 bA,.slice b6 cj lc,.slice bt aX bD,q (s.ce.count:Int),.slice pa pn pc,q (s.last:Int),q s.ck.dS] J->(∃lo hi,uG (fun k=>k<J.heap.size) td s.ck.bY s.ck.dS t lo hi x (.slice aC c6 bA) J)->ey 20 #[M x,.slice aC c6 bA,q s.ck.dS] J.drew fun e S=>∃dc on de,e=.returned (.tuple #[.slice dc on de,.bool true])/\(dp S b 0=some (.slice aC c6 bA)/\dp S b 1=some (.slice b6 cj lc)/\dp S b 2=some (.slice bt aX bD)/\dp S b 3=some (q (s.ce.count:Int))/\dp S b 6=some (q s.ck.dS))/\Hid (jC w b #[.slice aC c6 bA,.slice b6 cj lc,.slice bt aX bD,q (s.ce.count:Int),.slice pa pn pc,q (s.last:Int),q s.ck.dS] S/\fW 0 S (.slice dc on de) out)):=u (fun J x cv ik=>(xj.out J x cv ik).mono (by
     rintro e S ⟨r8,v,rfl,ct⟩;obtain⟨dc,on,de,rfl⟩:∃dc on de,v=.slice dc on de:=by obtain⟨bE,C,_⟩:=id ct;obtain⟨a,c,e⟩:=cG C;exact⟨a,_,c,e⟩
     exact⟨dc,on,de,rfl,vH.out S r8,u ⟨r8,ct⟩⟩))
    have lg:Hid (∀W,jC w b #[.slice aC c6 bA,.slice b6 cj lc,.slice bt aX bD,q (s.ce.count:Int),.slice pa pn pc,q (s.last:Int),q s.ck.dS] W->ey 21 #[.agg #[.slice b6 cj lc,.slice bt aX bD,q (s.ce.count:Int)]] W fun e aA=>e=.returned (q (s.ce.count:Int))/\(dp aA b 0=some (.slice aC c6 bA)/\dp aA b 1=some (.slice b6 cj lc)/\dp aA b 2=some (.slice bt aX bD)/\dp aA b 3=some (q (s.ce.count:Int))/\dp aA b 6=some (q s.ck.dS))/\((dp aA w.heap.size 0=some (.slice none 0 0)/\dp aA w.heap.size 1=some (q 0))/\(aA.frozen? ⟨w.heap.size,0,none⟩=false/\aA.frozen? ⟨w.heap.size,1,none⟩=false))/\Hid (jC w b #[.slice aC c6 bA,.slice b6 cj lc,.slice bt aX bD,q (s.ce.count:Int),.slice pa pn pc,q (s.last:Int),q s.ck.dS] aA/\Below W.heap.size W aA)):=u (fun W cv=>(ank b6 bt cj lc aX bD _ W).mono (by
     rintro e aA ⟨rfl,A⟩;have uz:=cv.below A;exact⟨rfl,vH.out aA uz,yS.out aA uz,u ⟨uz,A⟩⟩))
    by_cases PB:60<=s.ce.count
    ·rw[if_pos PB];have aoI:(60:Int)<=(s.ce.count:Int):=r;clear nv h h1 H ab aK aw lX CR hrel rh sF AP AQ my hF ok fit dh sZ iD fF hw qq yS AR vH xj xm r7 ko CS r4 vG;generalize s.ck.dS=r5 at *;go_enter func7,ntmps7;go_upto_region 6 with(first | (go_at_call 19;refine cK.out.mono ?_;rintro e J ⟨x,rfl,⟨a0,bq,a2,a3,a4⟩,jd⟩) | (go_at_call 18;refine(xl.out _).mono ?_;rintro e w' ⟨rfl,rfl⟩));go_region_held3 (fun w'=>w'.cell? ⟨b,0,none⟩=some (.slice aC c6 bA)/\w'.cell? ⟨b,1,none⟩=some (.slice b6 cj lc)/\w'.cell? ⟨b,2,none⟩=some (.slice bt aX bD)/\w'.cell? ⟨b,3,none⟩=some (q (s.ce.count:Int))/\w'.cell? ⟨b,6,none⟩=some (q r5)) (go_keep) (first | (go_at_call 20;refine(gJ.out J x jd.out.1 jd.out.2.2).mono ?_;rintro e S ⟨dc,on,de,rfl,⟨hr,cN,bL,fS,jg⟩,kh⟩))
     all_goals go_wp2_with (go_at_call 21;refine(lg.out S kh.out.1).mono ?_;rintro e aA ⟨rfl,⟨d0,d1,d2,d3,d4⟩,⟨⟨c3,cX⟩,⟨cA,AV⟩⟩,oO⟩)
     all_goals refine bodyPost_ret (v:=.tuple #[.agg #[.slice none 0 0,q 0],q 7]) (by simp[results,results7,go_sem, *]) rfl (wt.out aA 7 0 oO.out.1.ho)
    ·rw[if_neg PB];have aoI:(s.ce.count:Int)<60:=r;have dA : -1000000000000<=s.ck.dS:=by have:=ok.zN;omega
     obtain⟨aoJ,aoK,aoL⟩:=XG (fit.B ok) dA ok.ya (e:=aoE) (wh:=aoF) (g:=aoG) (hv:=aoH) (V:=eM t) (by rw[<-r7];exact ko) (by rw[<-r7];exact CS) iu (by rw[<-r7];exact xm);obtain⟨lH,vu⟩:∃lH,lH=nh cU s.ck.dS (hj (out.map (·.2))) s.ce:=⟨_,rfl⟩;have XX:lH.count=s.ce.count+1:=by rw[vu];rfl
     rw[<-vu]
     have XY:Hid (∀W dc on de,jC w b #[.slice aC c6 bA,.slice b6 cj lc,.slice bt aX bD,q (s.ce.count:Int),.slice pa pn pc,q (s.last:Int),q s.ck.dS] W->fW 0 W (.slice dc on de) out->ey 23 #[.slice dc on de] W fun e bI=>∃uK un vF,e=.returned (.slice uK un vF)/\(dp bI b 0=some (.slice aC c6 bA)/\dp bI b 1=some (.slice b6 cj lc)/\dp bI b 2=some (.slice bt aX bD)/\dp bI b 3=some (q (s.ce.count:Int))/\dp bI b 6=some (q s.ck.dS))/\(¬b=bI.heap.size/\¬bI.heap.size=b)/\((∀aB i,aB<W.heap.size->dp bI aB i=dp W aB i)/\∀aB i,aB<W.heap.size->bI.frozen? ⟨aB,i,none⟩=W.frozen? ⟨aB,i,none⟩)/\Hid (Below W.heap.size W bI/\jC w b #[.slice aC c6 bA,.slice b6 cj lc,.slice bt aX bD,q (s.ce.count:Int),.slice pa pn pc,q (s.last:Int),q s.ck.dS] bI/\fW 0 bI (.slice dc on de) out/\bI.ownsRow 0 40 2 (.slice uK un vF) (hj (out.map (·.2))).length ((hj (out.map (·.2))).flatMap dX))):=u (fun W dc on de cv ct=>(anb _ out 0 W ct r r).mono (by
      rintro e bI ⟨bp,rfl,ag,A⟩;obtain⟨uK,vF,rfl⟩:=cG ag;have qd:=cv.below A;have X:=jq qd.bQ;have nu:=jq qd.up;exact⟨uK,_,vF,rfl,vH.out bI qd,⟨r,r⟩,CP A,u ⟨A,qd,ct.below A,ei bu ag⟩⟩))
     have XZ:Hid (∀W uK un vF dc on de,jC w b #[.slice aC c6 bA,.slice b6 cj lc,.slice bt aX bD,q (s.ce.count:Int),.slice pa pn pc,q (s.last:Int),q s.ck.dS] W->fW 0 W (.slice dc on de) out->W.ownsRow 0 40 2 (.slice uK un vF) (hj (out.map (·.2))).length ((hj (out.map (·.2))).flatMap dX)->ey 22 #[.agg #[.slice b6 cj lc,.slice bt aX bD,q (s.ce.count:Int)],.string cU,q s.ck.dS,.slice uK un vF] W fun e bh=>∃a n k a2 b9 aZ,e=.returned (.agg #[.slice a n k,.slice a2 b9 aZ,q (lH.count:Int)])/\(dp bh b 0=some (.slice aC c6 bA)/\dp bh b 1=some (.slice b6 cj lc)/\dp bh b 2=some (.slice bt aX bD)/\dp bh b 3=some (q (s.ce.count:Int))/\dp bh b 6=some (q s.ck.dS))/\(¬b=bh.heap.size/\¬bh.heap.size=b)/\((∀aB i,aB<W.heap.size->dp bh aB i=dp W aB i)/\∀aB i,aB<W.heap.size->bh.frozen? ⟨aB,i,none⟩=W.frozen? ⟨aB,i,none⟩)/\Hid (Below W.heap.size W bh/\jC w b #[.slice aC c6 bA,.slice b6 cj lc,.slice bt aX bD,q (s.ce.count:Int),.slice pa pn pc,q (s.last:Int),q s.ck.dS] bh/\fW 0 bh (.slice dc on de) out/\fB (db (eT F c 1) w) bh (.slice a n k) lH.log/\fB (db (eT F c 1) w) bh (.slice a2 b9 aZ) lH.ng)):=u (fun W uK un vF dc on de cv ct ag=>(anC (F:=eT F c 1) b6 bt cj lc aX bD 0 cU s.ck.dS _ (hj (out.map (·.2))) s.ce W (H.move (fun k hk av=>⟨av,cv.ho.block k hk⟩)) (ab.move (fun k hk av=>⟨av,cv.ho.block k hk⟩)) oE kv wq hu ag r).mono (by
      rintro e bh ⟨a,n,k,a2,b9,aZ,rfl,u1,u2,A⟩;have xn:=cv.below A;have X:=jq xn.bQ;have nu:=jq xn.up;rw[<-vu] at u1 u2;exact⟨a,n,k,a2,b9,aZ,by rw[XX],vH.out bh xn,⟨r,r⟩,CP A,u ⟨A,xn,ct.below A,u1.wide (Xr cv.ho.size),u2.wide (Xr cv.ho.size)⟩⟩))
     have FQ:Hid (∀W aB a n k a2 b9 aZ dc on de,oP w b #[.slice aC c6 bA,.slice b6 cj lc,.slice bt aX bD,q (s.ce.count:Int),.slice pa pn pc,q (s.last:Int),q s.ck.dS] (db (eT F c 1) w) lH (.slice dc on de) out aB a a2 n k b9 aZ W->ey 24 #[.pointer (some ⟨b,4,none⟩),.agg #[.slice a n k,.slice a2 b9 aZ,q (lH.count:Int)],.slice aC c6 bA,q s.ck.dS] W.drew fun e cw=>e=.returned (q (oa (f lH) s.nj:Int))/\(dp cw b 0=some (.slice aC c6 bA)/\dp cw b 1=some (.slice b6 cj lc)/\dp cw b 2=some (.slice bt aX bD)/\dp cw b 3=some (q (s.ce.count:Int))/\dp cw b 6=some (q s.ck.dS))/\(dp cw aB 0=some (.slice a n k)/\dp cw aB 1=some (.slice a2 b9 aZ)/\dp cw aB 2=some (q (lH.count:Int)))/\((dp cw w.heap.size 0=some (.slice none 0 0)/\dp cw w.heap.size 1=some (q 0))/\(cw.frozen? ⟨w.heap.size,0,none⟩=false/\cw.frozen? ⟨w.heap.size,1,none⟩=false))/\Hid (oP w b #[.slice aC c6 bA,.slice b6 cj lc,.slice bt aX bD,q (s.ce.count:Int),.slice pa pn pc,q (s.last:Int),q s.ck.dS] (db (eT F c 1) w) lH (.slice dc on de) out aB a a2 n k b9 aZ cw)):=u (fun W aB a n k a2 b9 aZ dc on de bi=>by
      have vz:Below W.heap.size W W.drew:=⟨rfl,rfl,rfl,ap,fun _ _=>rfl⟩;have CT:=bi.below vz;have k7:=CT.st.ho;refine(anh (f lH) s.nj b 4 (.slice pa pn pc) a a2 aC n k b9 aZ c6 bA (lH.count:Int) s.ck.dS W.drew (Z CT.st.bQ (i:=4) rfl) (jq CT.st.bQ) (ee aK.1 k7) mn (fun p aj aU qU=>hF p aj aU a a2 aC n k b9 aZ c6 bA lH (Below.fK k7 qU) (CT.log.below qU).inside (CT.Py.below qU).inside ?_ ⟨td,ts,t,out,hrel,vG,r4,xm,r,hw,vu⟩)).mono ?_
      ·exact((lX.move (F':=eT F c 0) (fun k hk av=>⟨av,k7.block k hk⟩)).move (F':=eT F c 0) (fun k hk av=>⟨av,qU.block k hk⟩)).inside
      ·rintro e cw ⟨rfl,A⟩;have cE:=CT.below A;exact⟨rfl,vH.out cw cE.st,⟨Z cE.at_ (i:=0) rfl,Z cE.at_ (i:=1) rfl,Z cE.at_ (i:=2) rfl⟩,yS.out cw cE.st,u cE⟩)
     have PC:Hid (∀W aB a n k a2 b9 aZ dc on de,oP w b #[.slice aC c6 bA,.slice b6 cj lc,.slice bt aX bD,q (s.ce.count:Int),.slice pa pn pc,q (s.last:Int),q s.ck.dS] (db (eT F c 1) w) lH (.slice dc on de) out aB a a2 n k b9 aZ W->(dp W b 0=some (.slice aC c6 bA)/\dp W b 1=some (.slice b6 cj lc)/\dp W b 2=some (.slice bt aX bD)/\dp W b 3=some (q (s.ce.count:Int))/\dp W b 6=some (q s.ck.dS))/\(dp W aB 0=some (.slice a n k)/\dp W aB 1=some (.slice a2 b9 aZ)/\dp W aB 2=some (q (lH.count:Int)))):=u (fun W aB a n k a2 b9 aZ dc on de bi=>⟨vH.out W bi.st,⟨Z bi.at_ (i:=0) rfl,Z bi.at_ (i:=1) rfl,Z bi.at_ (i:=2) rfl⟩⟩)
     have Av:Hid (∀W aB a n k a2 b9 aZ dc on de,oP w b #[.slice aC c6 bA,.slice b6 cj lc,.slice bt aX bD,q (s.ce.count:Int),.slice pa pn pc,q (s.last:Int),q s.ck.dS] (db (eT F c 1) w) lH (.slice dc on de) out aB a a2 n k b9 aZ W->(W.frozen? ⟨b,1,none⟩=false/\W.frozen? ⟨b,2,none⟩=false/\W.frozen? ⟨b,3,none⟩=false)/\(¬b=w.heap.size/\¬w.heap.size=b)):=u (fun W aB a n k a2 b9 aZ dc on de bi=>⟨⟨aQ bi.st.bQ,aQ bi.st.bQ,aQ bi.st.bQ⟩,⟨r,r⟩⟩)
     have nC:Hid (∀W aB a n k a2 b9 aZ dc on de,oP w b #[.slice aC c6 bA,.slice b6 cj lc,.slice bt aX bD,q (s.ce.count:Int),.slice pa pn pc,q (s.last:Int),q s.ck.dS] (db (eT F c 1) w) lH (.slice dc on de) out aB a a2 n k b9 aZ W->JA F w b ⟨0,0,out,{s with ce:=lH}⟩ (.returned (.tuple #[.agg #[.slice dc on de,q 0],q 0])) (((((W.setCell ⟨b,1,none⟩ (.slice a n k)).setCell ⟨b,2,none⟩ (.slice a2 b9 aZ)).setCell ⟨b,3,none⟩ (q (lH.count:Int))).setCell ⟨w.heap.size,0,none⟩ (.slice dc on de)).setCell ⟨w.heap.size,1,none⟩ (q 0))):=u (fun W aB a n k a2 b9 aZ dc on de bi=>by
      obtain⟨bz,cz⟩:=aow b5 aw h1 aK bi;exact⟨dc,on,de,rfl,bz,cz⟩)
     have X0:Hid (∀W,jC w b #[.slice aC c6 bA,.slice b6 cj lc,.slice bt aX bD,q (s.ce.count:Int),.slice pa pn pc,q (s.last:Int),q s.ck.dS] W->w.heap.size<=W.heap.size):=u (fun W cv=>cv.ho.size);generalize X1:oa (f lH) s.nj=F5 at *;have atr:=u X1;have ats:=u bc;clear nv h h1 H ab aK aw lX CR hrel rh sF AP AQ my hF ok fit dh sZ iD fF hw qq yS AR xj xm r7 ko CS r4 vG X1 vu XX aoJ aoK aoL dA PB oE kv wq mn b5 aoD bc vH;generalize s.ck.dS=r5 at *;generalize X2:lH.count=aoM at *;have aoN:=u X2;clear X2;go_enter func7,ntmps7;go_upto_region 6 with(first | (go_at_call 19;refine cK.out.mono ?_;rintro e J ⟨x,rfl,⟨a0,bq,a2,a3,a4⟩,jd⟩) | (go_at_call 18;refine(xl.out _).mono ?_;rintro e w' ⟨rfl,rfl⟩))
     go_region_held3 (fun w'=>w'.cell? ⟨b,0,none⟩=some (.slice aC c6 bA)/\w'.cell? ⟨b,1,none⟩=some (.slice b6 cj lc)/\w'.cell? ⟨b,2,none⟩=some (.slice bt aX bD)/\w'.cell? ⟨b,3,none⟩=some (q (s.ce.count:Int))/\w'.cell? ⟨b,6,none⟩=some (q r5)) (go_keep) (first | (go_at_call 20;refine(gJ.out J x jd.out.1 jd.out.2.2).mono ?_;rintro e S ⟨dc,on,de,rfl,⟨hr,cN,bL,fS,jg⟩,kh⟩));go_upto_region 11 with(go_at_call 21;refine(lg.out S kh.out.1).mono ?_;rintro e aA ⟨rfl,⟨d0,d1,d2,d3,d4⟩,-,oO⟩);have X3:Hid (fW 0 aA (.slice dc on de) out):=u (kh.out.2.below oO.out.2);have JB:Hid (jC w b #[.slice aC c6 bA,.slice b6 cj lc,.slice bt aX bD,q (s.ce.count:Int),.slice pa pn pc,q (s.last:Int),q r5] aA):=u oO.out.1
     have F6:Hid (jC w b #[.slice aC c6 bA,.slice b6 cj lc,.slice bt aX bD,q (s.ce.count:Int),.slice pa pn pc,q (s.last:Int),q r5] aA.drew/\fW 0 aA.drew (.slice dc on de) out):=u ⟨JB.out.below ⟨rfl,rfl,rfl,ap,fun _ _=>rfl⟩,X3.out.below ⟨rfl,rfl,rfl,ap,fun _ _=>rfl⟩⟩;have sA:Hid (∀W o,jC w b #[.slice aC c6 bA,.slice b6 cj lc,.slice bt aX bD,q (s.ce.count:Int),.slice pa pn pc,q (s.last:Int),q r5] W/\fW 0 W (.slice dc on de) out->jC w b #[.slice aC c6 bA,.slice b6 cj lc,.slice bt aX bD,q (s.ce.count:Int),.slice pa pn pc,q (s.last:Int),q r5] (W.alloc o)/\fW 0 (W.alloc o) (.slice dc on de) out):=u (fun W o h=>⟨h.1.below ((Below.refl _ _).alloc ap o),h.2.below ((Below.refl _ _).alloc ap o)⟩);obtain⟨X4,X5⟩:¬b=aA.heap.size/\¬aA.heap.size=b:=by have:=jq JB.out.bQ;exact⟨r,r⟩
     clear a0 bq a2 a3 a4 hr cN bL fS jg;go_cut [12] (fun F1 wc=>∃aB a n k a2 b9 aZ,F1=M aB/\Hid (oP w b #[.slice aC c6 bA,.slice b6 cj lc,.slice bt aX bD,q (s.ce.count:Int),.slice pa pn pc,q (s.last:Int),q r5] (db (eT F c 1) w) lH (.slice dc on de) out aB a a2 n k b9 aZ wc));case first=>
      go_region_held3 (fun w'=>w'.cell? ⟨b,0,none⟩=some (.slice aC c6 bA)/\w'.cell? ⟨b,1,none⟩=some (.slice b6 cj lc)/\w'.cell? ⟨b,2,none⟩=some (.slice bt aX bD)/\w'.cell? ⟨b,3,none⟩=some (q (s.ce.count:Int))/\w'.cell? ⟨b,6,none⟩=some (q r5)) (go_keep) (first
       | (go_at_call 22;refine(XZ.out _ _ _ _ dc on de (by first | exact uL.out.2.1 | exact(sA.out _ _ ⟨uL.out.2.1,uL.out.2.2.1⟩).1) (by first | exact uL.out.2.2.1 | exact(sA.out _ _ ⟨uL.out.2.1,uL.out.2.2.1⟩).2) (by first | exact uL.out.2.2.2 | exact uL.out.2.2.2.alloc _)).mono ?_;rintro e bh ⟨a,n,k,a2,b9,aZ,rfl,⟨f0,f1,f2,f3,f4⟩,⟨f5,f6⟩,⟨f7,f8⟩,ql⟩;have JC:Below bI.heap.size bI bh:=(by first | exact ql.out.1 | exact Below.CQ ql.out.1);obtain⟨g7,g8⟩:=CP (Below.fK uL.out.1 JC);replace JC:=u JC)
       | (go_at_call 23;refine(XY.out _ dc on de (by first | exact F6.out.1 | exact(sA.out _ _ F6.out).1) (by first | exact F6.out.2 | exact(sA.out _ _ F6.out).2)).mono ?_;rintro e bI ⟨uK,un,vF,rfl,⟨c7,Y,am,bm,hq⟩,⟨ol,s8⟩,⟨wj,sg⟩,uL⟩))
      all_goals
       clear c7 Y am bm hq ol s8 wj sg f0 f1 f2 f3 f4 f5 f6 f7 f8 g7 g8 X4 X5 d0 d1 d2 d3 d4;go_wp2_with fail;go_meet;case rel=>
        have wq:=aoN.out;subst wq;first
         | exact⟨_,_,_,_,_,_,_,rfl,u (oP.laid ql.out.2.1 ql.out.2.2.2.1 ql.out.2.2.2.2 ql.out.2.2.1)⟩
         | exact⟨_,_,_,_,_,_,_,rfl,u (oP.yP ql.out.2.1 (Below.a8 ql.out.1 (l8 rfl)) (X0.out _ uL.out.2.1) ql.out.2.2.2.1 ql.out.2.2.2.2 ql.out.2.2.1)⟩
         | exact⟨_,_,_,_,_,_,_,rfl,u (oP.yP ql.out.2.1 (Below.a8 (Below.fK uL.out.1 JC.out) (l8 rfl)) (X0.out _ JB.out) ql.out.2.2.2.1 ql.out.2.2.2.2 ql.out.2.2.1)⟩
     case rest=>
      obtain⟨aB,a,n,k,a2,b9,aZ,rfl,bi⟩:=hcut;obtain⟨⟨u0,u1,u2,u3,u4⟩,⟨v0,v1,v2⟩⟩:=PC.out wc aB a n k a2 b9 aZ dc on de bi.out;clear XY XZ F6 sA JB X3 X4 X5 d0 d1 d2 d3 d4 jd kh oO cK gJ lg xl;go_upto_region 12 with fail;go_region_held3 (fun w'=>w'.cell? ⟨b,0,none⟩=some (.slice aC c6 bA)/\w'.cell? ⟨b,1,none⟩=some (.slice b6 cj lc)/\w'.cell? ⟨b,2,none⟩=some (.slice bt aX bD)/\w'.cell? ⟨b,3,none⟩=some (q (s.ce.count:Int))/\w'.cell? ⟨b,6,none⟩=some (q r5)/\w'.cell? ⟨aB,0,none⟩=some (.slice a n k)/\w'.cell? ⟨aB,1,none⟩=some (.slice a2 b9 aZ)/\w'.cell? ⟨aB,2,none⟩=some (q (aoM:Int))) (go_keep) (first | (go_at_call 24;refine(FQ.out wc aB a n k a2 b9 aZ dc on de bi.out).mono ?_;rintro e cw ⟨rfl,⟨c7,Y,am,bm,hq⟩,⟨ol,s8,wj⟩,⟨⟨c3,cX⟩,⟨cA,AV⟩⟩,p6⟩));by_cases JD:F5=0
      ·subst JD;obtain⟨⟨pM,h0,gR⟩,⟨lA,B6⟩⟩:=Av.out cw aB a n k a2 b9 aZ dc on de p6.out;have yR:=u (nC.out cw aB a n k a2 b9 aZ dc on de p6.out);clear u0 u1 u2 u3 u4 v0 v1 v2 FQ PC Av nC wt;go_wp2_with fail;refine bodyPost_ret (v:=.tuple #[.agg #[.slice dc on de,q 0],q 0]) (by simp[results,results7,go_sem, *]) rfl ?_;first | exact yR.out | (rw[if_neg (fun h=>h rfl)];exact yR.out)
      ·have rB:¬(F5:Int)=0:=r;have att:((F5:Int)==0)=false:=by rw[cV];exact rB
       have yR:=u (wt.out cw 10 F5 p6.out.st.ho);clear u0 u1 u2 u3 u4 v0 v1 v2 FQ PC Av nC wt;go_wp2_with fail;refine bodyPost_ret (v:=.tuple #[.agg #[.slice none 0 0,q (F5:Int)],q 10]) (by simp[results,results7,go_sem, *]) rfl ?_;first | exact yR.out | (rw[if_pos JD];exact yR.out)
