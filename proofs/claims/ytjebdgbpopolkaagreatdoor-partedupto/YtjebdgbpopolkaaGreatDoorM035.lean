import Derived.Test.YtjebdgbpopolkaaGreatDoorM031
import Derived.Test.YtjebdgbpopolkaaGreatDoorM034
set_option maxHeartbeats 0
set_option maxRecDepth 100000
set_option linter.all false
namespace Go.Proofs.YtjebdgbpopolkaaGreatDoor
open Tryz
open Go.RowKit
open bS
variable{aB wb:Nat}{G aF:Option Nat}{w S aA:World}{F:Nat->Prop}{B:List bG}{O:Int}{ao:Bool}{st:az}
def aR.low(h:aR wb G aF w S)(cr:w.heap.size<=aB)(A:Below aB S aA):aR wb G aF w aA:=⟨A.os.trans h.os,A.tape.trans h.tape,A.output.trans h.output,bX h.size A.size,fun k hk ag=>(A.block k r).trans (h.block k hk ag),h.next,fun cs t e=>by
 obtain⟨c1,Y,b3⟩:=h.rT cs t e;exact⟨c1,(A.block wb (by have:=(br e).1;omega)).trans Y,b3⟩⟩
def aM.low{fZ:az}{J:World}(h1:aM F J wb G B O ao fZ)(h:aM F S wb G B O ao st)(cr:J.heap.size<=aB)(A:Below aB S aA):aM F aA wb G B O ao st:=h.stay A.size (fun k av=>A.block k (by have:=h1.fH k av;omega)) (A.block wb (by have:=h1.lt;omega)) (fun g R=>A.block g (by have:=(h1.mZ g R).1;omega))
def kQ.jp{w':World}(au:kQ w)(h:aM F w wb G B O ao st)(hF:F 2)(hk:aR wb G aF w w'):kQ w':=au.a8 (hk.block _ (h.fH _ hF) (h.own _ hF))
def ak8(bl fl:Value)(c:je)(vs:List al)(w:World)(h:aM F w wb G B O ao st)(hF:F 2)(au:kQ w)(ai:N7 F w fl c)(ar:st.ad.length+c.length<=10000)(Cx:∀v∈vs,fv v)(uc:vs.length<=10000)(fb:∀(W:World) (aF:Option Nat),aR wb G aF w W->aM F W wb aF B O ao {st with ad:=st.ad++c}->ey 73 #[M wb,bl] W fun e w'=>∃v,e=.returned v/\w'.ownsRow W.heap.size 112 3 v vs.length (fc vs)/\aM F w' wb aF B O ao {st with ad:=st.ad++c}/\aR wb aF aF W w'):ey 165 #[M wb,bl,fl] w fun e w'=>e=.returned (.string (a7 (j6 vs)))/\∃aF,aM F w' wb aF B O ao st/\aR wb G aF w w':=by
 have X:=h.lt;obtain⟨rs,x7,-⟩:=id ai;obtain⟨gB,dz,uq⟩:=cG x7;refine akW uq (fun J=>∃cP,aM F J wb cP B O ao {st with ad:=st.ad++c}/\aR wb G cP w J) (fun J S=>∃cP,(aM F J wb cP B O ao {st with ad:=st.ad++c}/\aR wb G cP w J)/\aM F S wb cP B O ao {st with ad:=st.ad++c}/\aR wb cP cP (J.alloc (.cells #[.pointer none,.slice none 0 0] 304)) S) _ w Cx uc (Vp fl c w h ai ar) (fun J ⟨cP,q1,bN⟩=>?_) (fun J S _ ⟨cP,⟨q1,bN⟩,fR,iK⟩=>?_) (fun J S aA _ ⟨cP,⟨q1,bN⟩,fR,iK⟩ A=>?_)
 ·have dI:=(Below.refl J.heap.size J).alloc ap (.cells #[.pointer none,.slice none 0 0] 304);refine(fb _ cP (bN.below dI) (q1.below dI)).mono ?_;rintro e S ⟨v,rfl,cX,cA,AV⟩;rw[cc] at cX;exact⟨v,rfl,cX,cP,⟨q1,bN⟩,cA,AV⟩
 ·have dI:=(Below.refl J.heap.size J).alloc ap (.cells #[.pointer none,.slice none 0 0] 304);have hs:=iK.size;rw[cc] at hs;have hk:aR wb G cP w S:=(bN.below dI).trans X iK;refine⟨hs,?_,au.jp h hF hk,iK.gg (q1.below dI) K K (bH J _)⟩;have:=h.fH _ hF;have:=bN.size;omega
 ·have hk:aR wb G cP w aA:=by have dI:=(Below.refl J.heap.size J).alloc ap (.cells #[.pointer none,.slice none 0 0] 304);exact((bN.below dI).trans X iK).low bN.size A
  have x6:=q1.low fR ap A;rw[uq];refine(akU gB c.length dz aA x6 (by show c.length<=(st.ad++c).length;rw[cu];omega) (by show(st.ad++c).length<=_;rw[cu];exact ar)).mono ?_;rintro e bp bI ⟨rfl,rfl,aF,p1,p2⟩;refine⟨rfl,rfl,aF,?_,hk.trans X p2⟩;have he:({st with ad:=(st.ad++c).take ((st.ad++c).length-c.length)}:az)=st:=by rw[M6]
  have fw:aM F bI wb aF B O ao {st with ad:=(st.ad++c).take ((st.ad++c).length-c.length)}:=p1;rw[he] at fw;exact fw
def kR(F:Nat->Prop)(wb:Nat)(G:Option Nat)(w:World):List (List Value)->List ez->Prop
 | [],[]=>True
 | a::C,b::s=>fV F wb G w a b/\kR F wb G w C s
 | _,_=>False
def kR.len{F:Nat->Prop}{wb:Nat}{G:Option Nat}{w:World}:∀{vs:List (List Value)} {l:List ez},kR F wb G w vs l->vs.length=l.length
 | [],[],_=>rfl
 | _::_,_::_,h=>by rw[di,di,kR.len h.2]
 | [],_::_,h=>h.elim
 | _::_,[],h=>h.elim
def kR.snoc{F:Nat->Prop}{wb:Nat}{G:Option Nat}{w:World}{a:List Value}{b:ez}(h1:fV F wb G w a b):∀{vs:List (List Value)} {l:List ez},kR F wb G w vs l->kR F wb G w (vs++[a]) (l++[b])
 | [],[],_=>⟨h1,trivial⟩
 | _::_,_::_,h=>⟨h.1,kR.snoc h1 h.2⟩
 | [],_::_,h=>h.elim
 | _::_,[],h=>h.elim
def kR.set{F:Nat->Prop}{wb:Nat}{G:Option Nat}{w:World}{v:Value}{c:je}(h1:∃rs,eg (jS wb G) w 115 2 v c.length (cQ rs)/\dk F w rs c):∀{vs:List (List Value)} {l:List ez} (i:Nat),kR F wb G w vs l->kR F wb G w (vs.set i (vs.getD i []++[v])) (l.set i (l.getD i []++[c]))
 | [],[],_,_=>trivial
 | _::_,_::_,0,h=>⟨fV.snoc h1 h.1,h.2⟩
 | _::_,_::_,i+1,h=>⟨h.1,kR.set h1 i h.2⟩
 | [],_::_,_,h=>h.elim
 | _::_,[],_,h=>h.elim
def kR.put{v:Value}{c:je}(h1:∃rs,eg (jS wb G) w 115 2 v c.length (cQ rs)/\dk F w rs c){vs:List (List Value)}{l:List ez}(ks:List (List UInt8))(key:List UInt8)(h:kR F wb G w vs l):(uy ks vs key v).1=(qE ks l key c).1/\kR F wb G w (uy ks vs key v).2 (qE ks l key c).2:=by
 unfold uy qE;cases ks.findIdx? (fun k=>decide (k=key)) with
 | none=>exact⟨rfl,h.snoc (a:=[v]) (b:=[c]) (show fV F wb G w [v] [c] from⟨h1,trivial⟩)⟩
 | some i=>exact⟨rfl,h.set h1 i⟩
def kR.all{F:Nat->Prop}{wb:Nat}{G:Option Nat}{w:World}{f:az->List al×az}(av:∀s,(f s).2=s)(st:az):∀(us:List Value) (l:ez) (ks:List (List UInt8)) (vs:List (List Value)) (gs:List ez),fV F wb G w us l->kR F wb G w vs gs->kR F wb G w ((List.zipWith (fun c bp=>(j6 (f {st with ad:=st.ad++c}).1,bp)) l us).foldl (fun s p=>uy s.1 s.2 p.1 p.2) (ks,vs)).2 (qF f l ks gs st).1
 | [],[],ks,vs,gs,_,h=>h
 | bp::us,c::l,ks,vs,gs,ai,h=>by obtain⟨p1,p2⟩:=h.put ai.1 ks (j6 (f {st with ad:=st.ad++c}).1);have aH:=kR.all av st us l (qE ks gs (j6 (f {st with ad:=st.ad++c}).1) c).1 _ _ ai.2 p2;rw[List.zipWith_cons_cons,List.foldl_cons,qF];simp only[av];rw[M6];rw[<-p1] at aH ⊢;exact aH
 | [],_::_,_,_,_,h,_=>h.elim
 | _::_,[],_,_,_,h,_=>h.elim
def fV.get{F:Nat->Prop}{wb:Nat}{G:Option Nat}{w:World}:∀{vs:List Value} {l:ez},fV F wb G w vs l->∀(i:Nat) (h1:i<vs.length) (H:i<l.length),∃rs,eg (jS wb G) w 115 2 vs[i] l[i].length (cQ rs)/\dk F w rs l[i]
 | [],[],_,_,h1,_=>absurd h1 (fp _)
 | _::_,_::_,h,0,_,_=>h.1
 | _::_,_::_,h,i+1,a,b=>fV.get h.2 i (by simpa using a) (by simpa using b)
 | [],_::_,h,_,_,_=>h.elim
 | _::_,[],h,_,_,_=>h.elim
def ak9(bl gr:Value)(f:az->List al×az)(vs:List Value)(l:ez)(w:World)(aw:aM F w wb G B O ao st)(hF:F 2)(au:kQ w)(an:w.ownsRow 0 92 1 gr vs.length vs)(kk:fV F wb G w vs l)(tD:l.length<=100000)(sq:∀c∈l,st.ad.length+c.length<=10000)(OJ:∀s,(f s).2=s)(AF:∀c∈l,(∀v∈(f {st with ad:=st.ad++c}).1,fv v)/\(f {st with ad:=st.ad++c}).1.length<=10000)(fb:∀c∈l,∀(W:World) (aF:Option Nat),aR wb G aF w W->aM F W wb aF B O ao {st with ad:=st.ad++c}->ey 73 #[M wb,bl] W fun e w'=>∃v,e=.returned v/\w'.ownsRow W.heap.size 112 3 v (f {st with ad:=st.ad++c}).1.length (fc (f {st with ad:=st.ad++c}).1)/\aM F w' wb aF B O ao {st with ad:=st.ad++c}/\aR wb aF aF W w'):ey 114 #[M wb,bl,gr] w fun e w'=>∃gv xs aF,e=.returned gv/\aM F w' wb aF B O ao st/\aR wb G aF w w'/\nE w.heap.size w' gv xs/\kR F wb aF w' (xs.map (·.2)) (qF f l [] [] st).1:=by
 have X:=aw.lt;have uc:=kk.len;obtain⟨ka,sX,rfl⟩:=cG an;have DX:(List.zipWith (fun c bp=>(j6 (f {st with ad:=st.ad++c}).1,bp)) l vs).length=vs.length:=by rw[List.length_zipWith];omega
 have go:(List.zipWith (fun c bp=>(j6 (f {st with ad:=st.ad++c}).1,bp)) l vs).map (·.2)=vs:=by
  rw[List.map_zipWith];apply List.ext_getElem
  ·rw[List.length_zipWith];omega
  ·intro i h1 H;rw[List.getElem_zipWith]
 have Bz:=akE (wb:=wb) (bl:=bl) (ka:=ka) (sX:=sX) (List.zipWith (fun c bp=>(j6 (f {st with ad:=st.ad++c}).1,bp)) l vs) (fun W=>∃aF,aM F W wb aF B O ao st/\aR wb G aF w W/\W.ownsRow 0 92 1 (.slice ka vs.length sX) vs.length vs/\fV F wb aF W vs l) w r (fun p aj=>?_) (fun p aj=>?_) (fun W aU ⟨aF,hx,dL,jk,jM⟩ bi=>?_) (fun W ⟨aF,hx,dL,jk,jM⟩=>⟨dL.size,by rw[go,DX];exact jk⟩) (fun W j aS ⟨aF,hx,dL,jk,jM⟩=>?_) ⟨G,aw,aR.refl _ _ _,an,kk⟩
 ·rw[DX] at Bz;refine Bz.mono ?_;rintro e w' ⟨gv,xs,rfl,⟨aF,hx,dL,jk,jM⟩,dh,qc⟩;refine⟨gv,xs,aF,rfl,hx,dL,dh,?_⟩;rw[qc];exact kR.all OJ st vs l [] [] [] jM trivial
 ·obtain⟨i,hi,rfl⟩:=List.getElem_of_mem aj;rw[List.getElem_zipWith];obtain⟨rs,ag,_⟩:=kk.get i r r;obtain⟨a,c,e⟩:=cG ag.1;exact⟨_,_,_,e⟩
 ·obtain⟨i,hi,rfl⟩:=List.getElem_of_mem aj;rw[List.getElem_zipWith];obtain⟨v1,v2⟩:=AF _ (ec (by omega:i<l.length));have:=OF _ v1;show(j6 _).length<=_;omega
 ·have FD:∀k,k<w.heap.size->aU.heap[k]?=W.heap[k]?:=fun k hk=>by
   rcases bi.block k (e0 hk dL.size) with e | e
   ·exact e
   ·have:=e.1;omega
  have Wg:∀(k:Nat) (cs:Array Value),W.heap[k]?=some (.cells cs 115 (0,0))->aU.heap[k]?=W.heap[k]?:=fun k cs w6=>by
   rcases bi.block k (br w6).1 with e | ⟨_,⟨fU,t,m,Y,am⟩ | ⟨es,c,Y⟩⟩
   ·exact e
   ·rw[w6] at Y;injection Y with Y;injection Y with _ Y;subst Y;rcases am with am | am<;>cases am
   ·rw[w6] at Y;cases Y
  have GY:∀g,aF=some g->aU.heap[g]?=W.heap[g]?:=fun g R=>by obtain⟨aE,b0,bf,cl,gc,iM,aI,aZ,a6,dt,e8,i8⟩:=hx.at_;obtain⟨_,cs,e⟩:=hD a6 (dt.trans R);exact Wg g cs e
  have EV:∀k,F k->aU.heap[k]?=W.heap[k]?:=fun k av=>FD k (aw.fH k av);refine⟨aF,hx.stay bi.size EV (FD wb X) GY,⟨bi.os.trans dL.os,bi.tape.trans dL.tape,bi.output.trans dL.output,bX dL.size bi.size,fun k hk ag=>(FD k hk).trans (dL.block k hk ag),dL.next,fun cs t e=>?_⟩,ph jk (fun k hk=>FD k (IW an hk)),jM.a8 Wg EV⟩;obtain⟨c1,Y,b3⟩:=dL.rT cs t e;exact⟨c1,(FD wb X).trans Y,b3⟩
 ·rw[List.getElem_zipWith];have oE:j<l.length:=r;have kv:j<vs.length:=r;obtain⟨v1,v2⟩:=AF _ (ec oE);obtain⟨rs,j0,eN⟩:=jM.get j kv oE;refine(ak8 bl vs[j] l[j] _ W hx hF (au.jp aw hF dL) ⟨rs,j0.1,eN⟩ (sq _ (ec oE)) v1 v2 (fun h5 gM a b=>fb _ (ec oE) h5 gM (dL.trans X a) b)).mono ?_;rintro e aU ⟨rfl,gM,p1,p2⟩;refine⟨rfl,⟨gM,p1,dL.trans X p2,p2.l3 hx K K jk,jM.move p2.n3 (p2.p4 hx.own)⟩,⟨p2.size,fun k cs t m au e=>?_,fun k es c e=>?_⟩⟩
  ·exact(p2.gg hx (by rcases au with rfl | rfl<;>decide) (by rcases au with rfl | rfl<;>decide) e).trans e.symm
  ·refine p2.block k (br e).1 ⟨?_,fun eX=>?_⟩
   ·rintro rfl;obtain⟨aE,b0,bf,cl,gc,iM,aI,-⟩:=hx.at_;rw[e] at aI;cases aI
   ·obtain⟨aE,b0,bf,cl,gc,iM,aI,aZ,a6,dt,e8,i8⟩:=hx.at_;obtain⟨_,cs,am⟩:=hD a6 (dt.trans eX);rw[e] at am;cases am
