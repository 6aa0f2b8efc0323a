import Derived.Test.YtjebdgbpopolkaaGreatDoorM035
import Derived.Test.YtjebdgbpopolkaaGreatDoorM036
set_option maxHeartbeats 0
set_option maxRecDepth 100000
set_option linter.all false
namespace Go.Proofs.YtjebdgbpopolkaaGreatDoor
open Tryz
open Go.RowKit
open bS
variable{F F':Nat->Prop}{W w w' fI:World}{L N b gc hi k lo n aW wb:Nat}{G aF:Option Nat}{B bd:List bG}{O:Int}{ao:Bool}{s st fZ:az}{cs:Array Value}{a bL e t:aL}{ev gv v:Value}{us xs:List Value}{aG l:ez}{bf:Option Addr}{gs:List ez}{i1:List (List al×ez)}{D E:List eO}{td:List eb}{V:lh}{I bU:List dC}
def AH(F:Nat->Prop)(wb:Nat)(G:Option Nat)(w:World)(gv:Value)(gs:List ez):Prop:=∃jU:List Value,w.ownsRow 0 93 1 gv jU.length jU/\jU.length=gs.length/\∀i (h1:i<jU.length) (H:i<gs.length),∃us,el (jS wb G) w 92 jU[i] us/\fV F wb G w us gs[i]
def aM.new(h:aM F w wb G B O ao st){t:TypeId}{m:Nat×Nat}(bM:t≠95)(b9:t≠115)(e:w.heap[k]?=some (.cells cs t m)):jS wb G k:=by
 obtain⟨aE,b0,bf,cl,gc,iM,aI,aZ,a6,dt,e8,i8⟩:=h.at_;refine⟨?_,fun eX=>?_⟩
 ·rintro rfl;exact oH e aI bM rfl
 ·obtain⟨_,fU,am⟩:=hD a6 (dt.trans eX);exact oH e am b9 rfl
def kR.get{F:Nat->Prop}{wb:Nat}{G:Option Nat}{w:World}:∀{vs:List (List Value)} {l:List ez},kR F wb G w vs l->∀(i:Nat) (h1:i<vs.length) (H:i<l.length),fV F wb G w vs[i] l[i]
 | [],[],_,_,h1,_=>absurd h1 (fp _)
 | _::_,_::_,h,0,_,_=>h.1
 | _::_,_::_,h,i+1,a,b=>kR.get h.2 i (by simpa using a) (by simpa using b)
 | [],_::_,h,_,_,_=>h.elim
 | _::_,[],h,_,_,_=>h.elim
def Wj(h:aM F w wb G B O ao st)(ag:w.ownsRow lo 92 1 v xs.length xs):el (jS wb G) w 92 v xs:=by
 obtain⟨a,c,e⟩:=cG ag;refine⟨⟨a,c,e⟩,fun nB iG e7 bo aw=>?_⟩;rcases ag.2 with⟨rfl,aY⟩ | ⟨g,af,ay,rfl,q1,bN,fR,iK,j4,km⟩
 ·omega
 ·injection bo with Y _ _;refine⟨g,0,ay,Y.symm,h.new K K bN,bN,fun i hi=>?_⟩;rw[ax1,<-Array.getElem?_toList];have:(ay.toList.take (xs.length*1))[i]?=some xs[i]:=by rw[km,fC hi]
  rwa [List.getElem?_take_of_lt r] at this
def alr(w:World)(X:l.length<=100000)(cW:ey 111 #[M wb,M aW] w fun e w'=>∃gr,e=.returned gr/\FC F wb G B O ao st l w gr w')(gN:∀W aF,aM F W wb aF B O ao st->aR wb G aF w W->ey 107 #[M aW] W (gU W (.bool false))):ey 69 #[M wb,M aW] w fun e w'=>∃gv aF,e=.returned gv/\aM F w' wb aF B O ao st/\aR wb G aF w w'/\AH F wb aF w' gv (l.map fun c=>[c]):=by
 have jF:=u cW;have qM:=u gN;clear cW gN;go_enter func69,ntmps69;go_upto_region 2 with(go_at_call 111;refine jF.out.mono ?_;rintro e J ⟨gr,rfl,cP,iv,bZ,vs,an,kk⟩;obtain⟨ka,gH,rfl⟩:=cG an);have pk:=u (qM.out J cP iv bZ);have oI:=u iv;have lk:=u bZ;have e9:=u an;have wT:=u kk;clear jF qM iv bZ an kk;go_upto_region 3 with(go_at_call 107;refine pk.out.mono ?_;rintro e S ⟨rfl,ah⟩);have gS:=u ah;clear ah;have uc:=wT.out.len
 have ON:Hid (∀aA,aA=(S.alloc (.cells #[.slice ka vs.length gH] 93)).alloc (.cells #[q 1] 3)->ey 112 #[.func (.func 164) #[] #[M S.heap.size,.pointer (some ⟨S.heap.size+1,0,none⟩)]] aA fun e bI=>∃aC c6 bA,e=.returned (.slice aC c6 bA)/\Hid (∃aF,aM F bI wb aF B O ao st/\aR wb G aF w bI/\AH F wb aF bI (.slice aC c6 bA) (l.map fun c=>[c]))):=u (by
  rintro aA rfl;have c1:((S.alloc (.cells #[.slice ka vs.length gH] 93)).alloc (.cells #[q 1] 3)).heap[S.heap.size]?=some (.cells #[.slice ka vs.length gH] 93 (0,0)):=(Below.heap_alloc _ _ S.heap.size (by rw[cc];omega)).trans (bH S _);have c2:((S.alloc (.cells #[.slice ka vs.length gH] 93)).alloc (.cells #[q 1] 3)).heap[S.heap.size+1]?=some (.cells #[q 1] 3 (0,0)):=by have U:=bH (S.alloc (.cells #[.slice ka vs.length gH] 93)) (.cells #[q 1] 3);rwa [cc] at U
  have cg:Below S.heap.size S ((S.alloc (.cells #[.slice ka vs.length gH] 93)).alloc (.cells #[q 1] 3)):=cT.alloc (by rw[cc];omega) _;have ff:((S.alloc (.cells #[.slice ka vs.length gH] 93)).alloc (.cells #[q 1] 3)).heap.size=S.heap.size+2:=by rw[cc,cc]
  generalize ((S.alloc (.cells #[.slice ka vs.length gH] 93)).alloc (.cells #[q 1] 3))=aA at *;have ag:=e9.out;obtain⟨g,Wk⟩:∃g,FE (.slice ka vs.length gH) g vs.length:=by
   rcases ag.2 with⟨e,aY⟩ | ⟨g,af,ay,e,q1,bN,fR,_⟩
   ·exact⟨0,.inl ⟨by rw[e],aY⟩⟩
   ·exact⟨g,.inr ⟨af,e,fR⟩⟩
  refine(alq S.heap.size (S.heap.size+1) g vs.length _ r aA r r Wk (Z c1 (i:=0) rfl) (Z c2 (i:=0) rfl)).mono ?_;rintro e bI ⟨v,rfl,hv,lM⟩;obtain⟨aC,bA,rfl⟩:=cG hv;have I3:Below J.heap.size J bI:=gS.out.trans ((cg.trans (lM.mono r)).mono gS.out.size);have zu:=oI.out.below I3;refine⟨aC,_,bA,rfl,u ⟨cP,zu,lk.out.below I3,(List.range vs.length).map (AG g),?_,?_,fun i h1 H=>?_⟩⟩
  ·rw[cZ,List.length_range];exact ei bu hv
  ·rw[cZ,List.length_range,cZ];exact uc
  ·rw[cZ,List.length_range] at h1;rw[cZ] at H;simp only[List.getElem_map,List.getElem_range];refine⟨[vs[i]],⟨⟨_,_,rfl⟩,fun a n c e _=>?_⟩,?_⟩
   ·rcases ag.2 with⟨_,aY⟩ | ⟨dM,af,ay,bo,q1,bN,fR,iK,j4,km⟩
    ·omega
    ·injection e with Y _ _;have en:g=dM:=by
      rcases Wk with⟨am,aY⟩ | ⟨EG,am,_⟩
      ·omega
      ·rw[bo] at am;injection am with am _ _;injection am with am;injection am with am;exact am.symm
     subst en;have Wl:=(I3.block g (br bN).1).trans bN;refine⟨g,i,ay,Y.symm,zu.new K K Wl,Wl,fun k hk=>?_⟩;have iS:k=0:=by simpa using hk
     subst iS;have:(ay.toList.take (vs.length*1))[i]?=some vs[i]:=by rw[km,fC h1]
     rw[List.getElem?_take_of_lt r,Array.getElem?_toList] at this;simpa using this
   ·obtain⟨rs,bq,a2⟩:=wT.out.get i h1 H;have Wm:aR wb cP cP J bI:=aR.of I3;exact⟨⟨rs,bq.move Wm.n3,a2.move (Wm.p4 oI.out.own)⟩,trivial⟩)
 have als:=u (alp ka vs.length gH S);clear e9 wT pk uc;go_wp2_with (first | (go_at_call 113;refine als.out.mono ?_;rintro e aA ⟨rfl,rfl⟩) | (go_at_call 112;refine(ON.out _ rfl).mono ?_;rintro e bI ⟨aC,c6,bA,rfl,aj⟩));go_ret;obtain⟨aF,p1,p2,fw⟩:=aj.out;exact⟨_,aF,rfl,p1,p2,fw⟩
def alt(w:World)(aw:aM F w wb G B O ao fZ)(ae:w.heap[aW]?=some (.cells cs 103 (0,0)))(nt:cs[3]?=some (.slice bf 0 gc))(cW:ey 111 #[M wb,M aW] w fun e w'=>∃gr,e=.returned gr/\FC F wb G B O ao st l w gr w')(gN:∀W aF,aM F W wb aF B O ao st->aR wb G aF w W->ey 107 #[M aW] W (gU W (.bool true))):ey 69 #[M wb,M aW] w fun e w'=>∃gv aF,e=.returned gv/\aM F w' wb aF B O ao st/\aR wb G aF w w'/\AH F wb aF w' gv [l]:=by
 have jF:=u cW;have qM:=u gN;have cx:=u aw;have ch:=u ae;clear cW gN aw ae;go_enter func69,ntmps69;go_upto_region 2 with(go_at_call 111;refine jF.out.mono ?_;rintro e J ⟨gr,rfl,cP,iv,bZ,vs,an,kk⟩;obtain⟨ka,gH,rfl⟩:=cG an);have pk:=u (qM.out J cP iv bZ);have oI:=u iv;have lk:=u bZ;have e9:=u an;have wT:=u kk;clear jF qM iv bZ an kk;go_upto_region 4 with(go_at_call 107;refine pk.out.mono ?_;rintro e S ⟨rfl,ah⟩);have kL:dp S aW 3=some (.slice bf 0 gc):=by have Y:=lk.out.gg cx.out K K ch.out;exact Z ((ah.block aW (br Y).1).trans Y) nt
 have gS:=u ah;clear ah pk;go_wp2_with fail;go_ret;have cg:Below J.heap.size J (S.alloc (.cells #[.slice ka vs.length gH] 93)):=gS.out.alloc gS.out.size _;have x6:=oI.out.below cg;have Wn:aR wb cP cP J _:=aR.of cg;refine⟨_,cP,rfl,x6,lk.out.below cg,[.slice ka vs.length gH],?_,rfl,fun i h1 H=>?_⟩
 ·exact⟨rfl,.inr ⟨S.heap.size,1,#[.slice ka vs.length gH],rfl,bu,bH S _,ap,K,rfl,rfl⟩⟩
 ·have hi:i=0:=by simpa using h1
  subst hi;exact⟨vs,Wj x6 (ee e9.out cg),wT.out.move Wn.n3 (Wn.p4 oI.out.own)⟩
def alu{cl:Nat}(w:World)(aw:aM F w wb G B O ao fZ)(ae:w.heap[aW]?=some (.cells cs 103 (0,0)))(nt:cs[3]?=some (.slice bf cl gc))(rI:0<cl)(cW:ey 111 #[M wb,M aW] w fun e w'=>∃gr,e=.returned gr/\FC F wb G B O ao st l w gr w')(gN:∀W aF,aM F W wb aF B O ao st->aR wb G aF w W->ey 107 #[M aW] W (gU W (.bool true)))(cK:∀W aF gr vs,aM F W wb aF B O ao st->aR wb G aF w W->W.ownsRow 0 92 1 gr vs.length vs->fV F wb aF W vs l->ey 114 #[M wb,.slice bf cl gc,gr] W fun e w'=>∃gv xs gM,e=.returned gv/\aM F w' wb gM B O ao st/\aR wb aF gM W w'/\nE W.heap.size w' gv xs/\kR F wb gM w' (xs.map (·.2)) gs):ey 69 #[M wb,M aW] w fun e w'=>∃gv aF,e=.returned gv/\aM F w' wb aF B O ao st/\aR wb G aF w w'/\AH F wb aF w' gv gs:=by
 have jF:=u cW;have qM:=u gN;have w1:=u cK;have cx:=u aw;have ch:=u ae;clear cW gN cK aw ae;have aj3:¬cl=0:=r;have dv:¬(cl:Int)=0:=r;go_enter func69,ntmps69;go_upto_region 2 with(go_at_call 111;refine jF.out.mono ?_;rintro e J ⟨gr,rfl,cP,iv,bZ,vs,an,kk⟩;obtain⟨ka,gH,rfl⟩:=cG an);have pk:=u (qM.out J cP iv bZ);have oI:=u iv;have lk:=u bZ;have e9:=u an;have wT:=u kk;clear jF qM iv bZ an kk;go_upto_region 4 with(go_at_call 107;refine pk.out.mono ?_;rintro e S ⟨rfl,ah⟩);have kL:dp S aW 3=some (.slice bf cl gc):=by have Y:=lk.out.gg cx.out K K ch.out;exact Z ((ah.block aW (br Y).1).trans Y) nt
 have gJ:Hid (ey 114 #[M wb,.slice bf cl gc,.slice ka vs.length gH] S fun e w'=>∃aC c6 bA,e=.returned (.slice aC c6 bA)/\Hid (∃gM,aM F w' wb gM B O ao st/\aR wb G gM w w'/\AH F wb gM w' (.slice aC c6 bA) gs)):=u (by
  have I4:aR wb cP cP J S:=aR.of ah;refine(w1.out S cP (.slice ka vs.length gH) vs (oI.out.below ah) (lk.out.below ah) (ei bu (ee e9.out ah)) (wT.out.move I4.n3 (I4.p4 oI.out.own))).mono ?_;rintro e w' ⟨gv,xs,gM,rfl,p1,p2,fw,pf⟩;obtain⟨aC,bA,rfl⟩:=cG fw.out;refine⟨aC,_,bA,rfl,u ⟨gM,p1,(lk.out.below ah).trans cx.out.lt p2,xs.map (·.1),?_,?_,fun i h1 H=>?_⟩⟩
  ·rw[cZ];exact ei bu fw.out
  ·have:=pf.len;rw[cZ] at this ⊢;exact this
  ·have hi:i<xs.length:=by rw[cZ] at h1;exact h1
   refine⟨xs[i].2,?_,?_⟩
   ·rw[List.getElem_map];exact Wj p1 (fw.kI i hi)
   ·have:=pf.get i (by rw[cZ];exact hi) H;rw[List.getElem_map] at this;exact this)
 clear ah pk w1;go_wp2_with (go_at_call 114;refine gJ.out.mono ?_;rintro e bI ⟨aC,c6,bA,rfl,aj⟩);go_ret;obtain⟨aF,p1,p2,fw⟩:=aj.out;exact⟨_,aF,rfl,p1,p2,fw⟩
def alv(a:Option Addr)(c:Nat)(w:World):ey 70 #[.slice a 0 c] w (ov w (.slice none 0 0)):=by go_enter func70,ntmps70;go_wp2_with fail;go_ret;exact⟨rfl,rfl⟩
def alw(g off n c:Nat)(bt:Option Addr)(aX bD:Nat)(w:World)(ar:0<n)(ai:dp w g off=some (.slice bt aX bD)):ey 70 #[.slice (some ⟨g,off,none⟩) n c] w (ov w (.slice bt aX bD)):=by have h1:¬n=0:=r;have H:¬(n:Int)=0:=r;have ab:(0:Int)<(n:Int):=r;go_enter func70,ntmps70;go_wp2_with fail;go_ret;exact⟨rfl,rfl⟩
def alx(aj:el F' w 92 gv us)(ai:pZ F w us aG):∃bt aX bD,ey 70 #[gv] w (ov w (.slice bt aX bD))/\N7 F w (.slice bt aX bD) (aG.headD [])/\aX=(aG.headD []).length:=by
 obtain⟨a,c,rfl⟩:=aj.1;have X:=ai.len;cases us with
 | nil=>
  cases aG with
  | nil=>exact⟨none,0,0,alv a c w,⟨[],World.ownsRow_nil _ _ _ _,trivial⟩,rfl⟩
  | cons=>simp at X
 | cons bp C=>
  cases aG with
  | nil=>simp at X
  | cons x s=>obtain⟨g,off,ay,rfl,-,h1,H⟩:=aj.2 _ _ _ rfl (by simp);obtain⟨rs,ab,aK⟩:=ai.1;obtain⟨bt,bD,rfl⟩:=cG ab.1;have aw:=H 0 (by simp);exact⟨bt,x.length,bD,alw g off _ c bt _ bD w (by simp) (Z h1 (by simpa using aw)),⟨rs,ab.1,aK⟩,rfl⟩
def aM.bF{F:Nat->Prop}{w:World}{wb:Nat}{G:Option Nat}{B:List bG}{O:Int}{ao:Bool}{st:az}(h:aM F w wb G B O ao st){bf:Option Addr}{cl gc:Nat}{aG:ez}(R:Ce F w (.slice bf cl gc) aG):aM F (w.setCell ⟨wb,3,none⟩ (.slice bf cl gc)) wb G B O true {st with bF:=aG}:=by have ef:=h.mZ;obtain⟨aE,b0,asZ,as0,as1,rs,h1,H,ab,aK,cO,cE⟩:=h.at_;have m:=(wQ (w:=w) wb G 3 (.slice bf cl gc)).p4 h.own;exact⟨fun k hk=>by rw[size_set];exact h.fH k hk,h.own,aE,b0,bf,cl,gc,rs,hc h1 _,H.move m,E0 ab (by rw[aK];intro e;exact(ef wb e).2 rfl) _ _,aK,cO.move m,fun _=>R.move m⟩
def aM.Wo(h:aM F w wb G B O ao st):aM F w wb G B O false st:=by obtain⟨aE,b0,bf,cl,gc,rs,h1,H,ab,aK,cO,cE⟩:=h.at_;exact⟨h.fH,h.own,aE,b0,bf,cl,gc,rs,h1,H,ab,aK,cO,fun e=>by cases e⟩
def xb(F:Nat->Prop)(wb:Nat)(G:Option Nat)(w:World)(k:Nat):Prop:=F k\/(k<w.heap.size/\jS wb G k/\∀cs m,w.heap[k]?≠some (.cells cs 112 m))
def aM.aly(h:aM F w wb G B O false st):aM (xb F wb G w) w wb G B O false st:=by obtain⟨aE,b0,bf,cl,gc,rs,h1,H,ab,aK,cO,cE⟩:=h.at_;have m:dj F (xb F wb G w) w w:=fun k _ av=>⟨.inl av,rfl⟩;exact⟨fun k hk=>by rcases hk with hk | hk;exact h.fH k hk;exact hk.1,fun k hk=>by rcases hk with hk | hk;exact h.own k hk;exact hk.2.1,aE,b0,bf,cl,gc,rs,h1,H.move m,ab,aK,cO.move m,fun e=>by cases e⟩
def dk.narrow{F:Nat->Prop}{fI w:World}{wb:Nat}{G:Option Nat}(hs:∀k,xb F wb G fI k->w.heap[k]?=fI.heap[k]?):∀{rs:List (Nat×Value)} {l:je},dk (xb F wb G fI) w rs l->dk F w rs l
 | [],[],_=>trivial
 | _::_,_::_,h=>⟨⟨h.1.1,h.1.2.1,fun k hk=>by
  rcases h.1.2.2 k hk with av | av
  ·exact av
  ·obtain⟨_,cs,e⟩:=hD h.1.2.1 hk;rw[hs k (.inr av)] at e;exact absurd e (av.2.2 cs _)⟩,dk.narrow hs h.2⟩
 | [],_::_,h=>h.elim
 | _::_,[],h=>h.elim
def aM.narrow{F:Nat->Prop}{fI w:World}{wb:Nat}{yE G:Option Nat}{B:List bG}{O:Int}{fZ st:az}{ao:Bool}(aw:aM F fI wb yE B O false fZ)(h:aM (xb F wb yE fI) w wb G B O ao st)(hk:aR wb yE G fI w):aM F w wb G B O false st:=by
 obtain⟨alz,alA,as2,as3,UX,iM,bq,a2,a3,a4,a5,kG⟩:=aw.at_;obtain⟨aE,b0,bf,cl,gc,rs,h1,H,ab,aK,cO,cE⟩:=h.at_;have hs:∀k,xb F wb yE fI k->w.heap[k]?=fI.heap[k]?:=fun k hw=>by
  rcases hw with av | av
  ·exact hk.block k (aw.fH k av) (aw.own k av)
  ·exact hk.block k av.1 av.2.1
 have MG:aE=alz:=by obtain⟨c1,Y,am⟩:=hk.rT _ _ bq;rw[h1] at Y;injection Y with Y;injection Y with Y _;subst Y;simpa using am
 subst MG;exact⟨fun k av=>h.fH k (.inl av),fun k av=>h.own k (.inl av),aE,b0,bf,cl,gc,rs,h1,a2.move (hk.p4 aw.own),ab,aK,cO.narrow hs,fun e=>by cases e⟩
def fV.wide{F:Nat->Prop}{wb:Nat}{G:Option Nat}{w:World}:∀{vs:List Value} {l:ez},fV F wb G w vs l->pZ (xb F wb G w) w vs l
 | [],[],_=>trivial
 | _::_,_::_,h=>⟨by
  obtain⟨rs,h1,H⟩:=h.1;refine⟨rs,⟨h1.1,fun k hk=>?_⟩,H.move (fun k _ av=>⟨.inl av,rfl⟩)⟩;obtain⟨_,cs,e⟩:=hD h1.1 hk;exact .inr ⟨(br e).1,h1.2 k hk,fun fU m bo=>oH e bo K rfl⟩,fV.wide h.2⟩
 | [],_::_,h=>h.elim
 | _::_,[],h=>h.elim
def el.wide(h:el (jS wb G) w 92 v us):el (xb F wb G w) w 92 v us:=by refine⟨h.1,fun a n c e aw=>?_⟩;obtain⟨g,off,ay,Y,am,bm,hq⟩:=h.2 a n c e aw;exact⟨g,off,ay,Y,.inr ⟨(br bm).1,am,fun fU m bo=>oH bm bo K rfl⟩,bm,hq⟩
def I5(rs:List (Value×Value)):List Value:=rs.flatMap fun p=>[p.1,p.2,.slice none 0 0]
def alB(rs:List (Value×Value))(p:Value×Value):I5 (rs++[p])=I5 rs++[p.1,p.2,.slice none 0 0]:=by unfold I5;rw[List.flatMap_append];rfl
def l5(F:Nat->Prop)(wb N:Nat)(G:Option Nat)(w:World)(v:Value)(i1:List (List al×ez)):Prop:=∃rs:List (Value×Value),w.ownsRow N 106 3 v rs.length (I5 rs)/\rs.length=i1.length/\∀i (h1:i<rs.length) (H:i<i1.length),w.ownsRow 0 112 3 rs[i].1 i1[i].1.length (fc i1[i].1)/\∃us,el (jS wb G) w 92 rs[i].2 us/\fV F wb G w us i1[i].2
def l5.nil:l5 F wb N G w (.slice none 0 0) []:=⟨[],World.ownsRow_nil _ _ _ _,rfl,fun i h=>absurd h (fp _)⟩
def l5.low{Wp:Nat}(h:l5 F wb N G w v i1)(cS:Wp<=N):l5 F wb Wp G w v i1:=by obtain⟨rs,h1,H⟩:=h;exact⟨rs,ei cS h1,H⟩
def l5.jp(h:l5 F wb N G w v i1)(hw:aM F' w wb G B O ao st)(hF:∀k,F k->F' k)(hk:aR wb G aF w w'):l5 F wb N aF w' v i1:=by obtain⟨rs,h1,H,ab⟩:=h;refine⟨rs,hk.l3 hw K K h1,H,fun i a b=>?_⟩;obtain⟨bz,us,cz,fP⟩:=ab i a b;exact⟨hk.l3 hw K K bz,us,cz.move hk.n3,fP.move hk.n3 (hk.p4 fun k av=>hw.own k (hF k av))⟩
structure FF (N:Nat) (w w':World):Prop where
 os:w'.os=w.os
 tape:w'.tape=w.tape
 output:w'.output=w.output
 size:w.heap.size<=w'.heap.size
 low:∀k,k<N->k<w.heap.size->w'.heap[k]?=w.heap[k]?
 other:∀(k:Nat) (cs:Array Value) (t:TypeId) (m:Nat×Nat),t≠106->w.heap[k]?=some (.cells cs t m)->w'.heap[k]?=w.heap[k]?
def FF.alC{alD:Bool}{yE:Option Nat}(h:FF N w w')(hw:aM F w wb G B O ao st)(AA:aM F fI wb yE B O alD fZ)(cS:fI.heap.size<=N)(hs:fI.heap.size<=w.heap.size):aM F w' wb G B O ao st:=by refine hw.stay h.size (fun k av=>h.low k (by have:=AA.fH k av;omega) (hw.fH k av)) (h.low wb (by have:=AA.lt;omega) hw.lt) (fun g R=>?_);obtain⟨aE,b0,bf,cl,gc,iM,aI,aZ,a6,dt,e8,i8⟩:=hw.at_;obtain⟨_,cs,e⟩:=hD a6 (dt.trans R);exact h.other g cs _ _ K e
def FF.jp(h:FF N w w')(hk:aR wb G aF fI w)(cS:fI.heap.size<=N):aR wb G aF fI w':=⟨h.os.trans hk.os,h.tape.trans hk.tape,h.output.trans hk.output,bX hk.size h.size,fun k bZ ag=>(h.low k r (e0 bZ hk.size)).trans (hk.block k bZ ag),hk.next,fun cs t e=>by
 obtain⟨c1,Y,b3⟩:=hk.rT cs t e;exact⟨c1,(h.low wb (by have:=(br e).1;omega) (br Y).1).trans Y,b3⟩⟩
def alE:(prog.info? 106).map (fun i=>(i.zero,i.size,i.bytes))=some (some (.agg #[.slice none 0 0,.slice none 0 0,.slice none 0 0]),3,72):=ax
def dk.ad{F:Nat->Prop}{w w':World}(m:∀(k:Nat) (cs:Array Value),w.heap[k]?=some (.cells cs 112 (0,0))->w'.heap[k]?=w.heap[k]?):∀{rs:List (Nat×Value)} {l:je},dk F w rs l->dk F w' rs l
 | [],[],_=>trivial
 | _::_,_::_,h=>⟨⟨h.1.1,ph h.1.2.1 (fun k hk=>by obtain⟨_,cs,e⟩:=hD h.1.2.1 hk;exact m k cs e),h.1.2.2⟩,dk.ad m h.2⟩
 | [],_::_,h=>h.elim
 | _::_,[],h=>h.elim
def fV.ad{F:Nat->Prop}{wb:Nat}{G:Option Nat}{w w':World}(m:∀(k:Nat) (cs:Array Value) (t:TypeId),t≠106->w.heap[k]?=some (.cells cs t (0,0))->w'.heap[k]?=w.heap[k]?):∀{vs:List Value} {l:ez},fV F wb G w vs l->fV F wb G w' vs l
 | [],[],_=>trivial
 | _::_,_::_,h=>⟨by
  obtain⟨rs,h1,H⟩:=h.1;exact⟨rs,⟨ph h1.1 (fun k hk=>by obtain⟨_,cs,e⟩:=hD h1.1 hk;exact m k cs _ K e),h1.2⟩,H.ad (fun k cs e=>m k cs _ K e)⟩,fV.ad m h.2⟩
 | [],_::_,h=>h.elim
 | _::_,[],h=>h.elim
def el.ad(m:∀(k:Nat) (cs:Array Value) (t:TypeId),t≠106->w.heap[k]?=some (.cells cs t (0,0))->w'.heap[k]?=w.heap[k]?)(h:el F w 92 v us):el F w' 92 v us:=by refine⟨h.1,fun a n c e aw=>?_⟩;obtain⟨g,off,ay,Y,am,bm,hq⟩:=h.2 a n c e aw;exact⟨g,off,ay,Y,am,(m g ay _ K bm).trans bm,hq⟩
def l5.push{lD:Value}{pV:List al}(h:l5 F wb N G w v i1)(cS:N<=w.heap.size)(X:i1.length<=1000000)(hv:w.ownsRow 0 112 3 lD pV.length (fc pV))(aj:el (jS wb G) w 92 gv us)(ai:fV F wb G w us aG):∃cF w',(∀ty,(Builtin.append_ #[96,96] ty #[v,.slice (some ⟨w.heap.size,0,none⟩) 1 1]).run prog (w.alloc (.cells #[lD,gv,.slice none 0 0] 106))=.ok cF w')/\l5 F wb N G w' cF (i1++[(pV,aG)])/\FF N w w':=by
 obtain⟨rs,h1,H,ab⟩:=h;obtain⟨aC,bA,rfl⟩:=cG hv;obtain⟨⟨bf,gc,rfl⟩,go⟩:=id aj;obtain⟨cF,w',ag,an,R,fq⟩:=ug underlying96 alE rfl K K h1 #[.slice aC pV.length bA,.slice bf us.length gc,.slice none 0 0] rfl (by simp[Value.oneCell']) r cS;have dI:=(Below.refl w.heap.size w).alloc ap (.cells #[.slice aC pV.length bA,.slice bf us.length gc,.slice none 0 0] 106);have key:∀k,k<w.heap.size->v.ownBlock≠some k->w'.heap[k]?=w.heap[k]?:=fun k hk cy=>(R.block k (e0 hk dI.size) (fun e=>cy e.symm)).trans (dI.block k hk);have w5:∀(k:Nat) (cs:Array Value) (t:TypeId) (m:Nat×Nat),t≠106->w.heap[k]?=some (.cells cs t m)->w'.heap[k]?=w.heap[k]?:=fun k cs t m au e=>key k (br e).1 (fun pU=>by
  obtain⟨_,fU,bo⟩:=hD h1 pU;exact oH e bo au rfl)
 have nf:∀(k:Nat) (cs:Array Value) (t:TypeId),t≠106->w.heap[k]?=some (.cells cs t (0,0))->w'.heap[k]?=w.heap[k]?:=fun k cs t au e=>w5 k cs t _ au e;refine⟨cF,w',ag,⟨rs++[(.slice aC pV.length bA,.slice bf us.length gc)],?_,?_,fun i a b=>?_⟩,⟨R.os.trans dI.os,R.tape.trans dI.tape,R.output.trans dI.output,bX dI.size R.size,fun k hk dR=>key k dR (fun pU=>?_),w5⟩⟩
 ·rw[cu,alB];exact an
 ·rw[cu,cu,H];rfl
 ·by_cases hi:i<rs.length
  ·have kA:i<i1.length:=r;obtain⟨bz,FG,cz,fP⟩:=ab i hi kA;simp only[List.getElem_append_left hi,List.getElem_append_left kA];exact⟨ph bz (fun k hk=>by obtain⟨_,cs,e⟩:=hD bz hk;exact nf k cs _ K e),FG,cz.ad nf,fP.ad nf⟩
  ·have kA:i=rs.length:=by rw[cu] at a;simp at a;omega
   subst kA;have o3:(rs++[(Value.slice aC pV.length bA,Value.slice bf us.length gc)])[rs.length]'a=(Value.slice aC pV.length bA,Value.slice bf us.length gc):=by rw[List.getElem_append_right ap];simp
   have bQ:(i1++[(pV,aG)])[rs.length]'b=(pV,aG):=by rw[List.getElem_append_right r];simp
   rw[o3,bQ];exact⟨ph hv (fun k hk=>by obtain⟨_,cs,e⟩:=hD hv hk;exact nf k cs _ K e),us,aj.ad nf,ai.ad nf⟩
 ·have:=(hD h1 pU).1;omega
def Wq{l:je}(h:cB (h7 E D aG) l)(R:∀c∈aG,cB D c):(aG.headD []).length<=l.length/\l.length<=E.length+D.length:=by
 have X:=h.len;unfold h7 at X;cases aG with
 | nil=>rw[if_pos rfl] at X;exact⟨bu,r⟩
 | cons c C=>rw[if_neg (by simp),cu] at X;have:=(R c (ax6 ..)).len;exact⟨by show c.length<=_;omega,r⟩
def alF(a8:az->Bool×az)(ba:az->List al×az)(aG:ez)(st:az):mp a8 ba aG st=if (a8 {st with bF:=aG,ad:=st.ad++aG.headD []}).1 then ([((ba (a8 {st with bF:=aG,ad:=st.ad++aG.headD []}).2).1,aG)],{(ba (a8 {st with bF:=aG,ad:=st.ad++aG.headD []}).2).2 with ad:=(ba (a8 {st with bF:=aG,ad:=st.ad++aG.headD []}).2).2.ad.take ((ba (a8 {st with bF:=aG,ad:=st.ad++aG.headD []}).2).2.ad.length-(aG.headD []).length)}) else ([],{(a8 {st with bF:=aG,ad:=st.ad++aG.headD []}).2 with ad:=(a8 {st with bF:=aG,ad:=st.ad++aG.headD []}).2.ad.take ((a8 {st with bF:=aG,ad:=st.ad++aG.headD []}).2.ad.length-(aG.headD []).length)}):=by unfold mp;simp only[];split<;>rfl
structure alG (F:Nat->Prop) (wb:Nat) (G:Option Nat) (B:List bG) (O:Int) (w:World) (E D:List eO) (ev hv:Value) (a8:az->Bool×az) (ba:az->List al×az) (aG:ez):Prop where
 fit:∀c∈aG,cB D c
 vc:aG.length<=20000
 alH:∀s,cB (h7 E D aG) s.ad->s.bF=aG->cB (h7 E D aG) (a8 s).2.ad/\(a8 s).2.bF=aG
 alI:∀s,cB (h7 E D aG) s.ad->s.bF=aG->cB (h7 E D aG) (ba s).2.ad/\(ba s).2.bF=aG
 alJ:∀(F':Nat->Prop) (W:World) (aF:Option Nat) (s:az),(∀k,F k->F' k)->aR wb G aF w W->aM F' W wb aF B O true s->cB (h7 E D aG) s.ad->s.bF=aG->ey 72 #[M wb,hv] W (Cq F' wb aF B O true (a8 s).1 (a8 s).2 W)
 alK:∀(F':Nat->Prop) (W:World) (aF:Option Nat) (s:az),(∀k,F k->F' k)->aR wb G aF w W->aM F' W wb aF B O true s->cB (h7 E D aG) s.ad->s.bF=aG->ey 73 #[M wb,ev] W fun e w'=>∃v,e=.returned v/\w'.ownsRow W.heap.size 112 3 v (ba s).1.length (fc (ba s).1)/\aM F' w' wb aF B O true (ba s).2/\aR wb aF aF W w'
def rZ(F kf:Nat->Prop)(wb:Nat)(cP:Option Nat)(B:List bG)(O:Int)(J:World)(s:az)(b0:Value)(aP:List (List al×ez))(W:World):Prop:=∃aF,aM kf W wb aF B O true s/\aR wb cP aF J W/\l5 F wb J.heap.size aF W b0 aP
def rZ.step{kf:Nat->Prop}{cP w4:Option Nat}{J:World}{fu:az}{b0:Value}{aP:List (List al×ez)}{aU:World}(hF:∀k,F k->kf k)(X:wb<J.heap.size)(h:aM kf W wb aF B O ao s)(hk:aR wb cP aF J W)(ak:l5 F wb J.heap.size aF W b0 aP)(cC:aM kf aU wb w4 B O true fu)(gi:aR wb aF w4 W aU):rZ F kf wb cP B O J fu b0 aP aU:=⟨w4,cC,hk.trans X gi,ak.jp h hF gi⟩
def alL{st1:az}{a8:az->Bool×az}{ba:az->List al×az}{hv:Value}(w:World)(aw:aM F w wb G B O false st)(ae:w.heap[aW]?=some (.cells cs 103 (0,0)))(uV:cs[0]?=some ev)(xP:cs[4]?=some hv)(gN:ey 69 #[M wb,M aW] w fun e w'=>∃gv aF,e=.returned gv/\aM F w' wb aF B O false st1/\aR wb G aF w w'/\AH F wb aF w' gv gs)(ef:gs.length<=100000)(j0:cB E st1.ad)(as4:E.length+D.length<=5000)(eo:∀aG∈gs,alG F wb G B O w E D ev hv a8 ba aG):ey 40 #[M wb,M aW] w fun e w'=>∃hI aF,e=.returned hI/\aM F w' wb aF B O false (k8 a8 ba gs [] st1).2/\aR wb G aF w w'/\l5 F wb w.heap.size aF w' hI (k8 a8 ba gs [] st1).1:=by
 have X:=aw.lt;have cx:=u aw;have ch:=u ae;have qM:Hid (ey 69 #[M wb,M aW] w fun e J=>∃bf cl gc,e=.returned (.slice bf cl gc)/\Hid (∃cP jU,cl=jU.length/\aM F J wb cP B O false st1/\aR wb G cP w J/\J.ownsRow 0 93 1 (.slice bf cl gc) jU.length jU/\jU.length=gs.length/\∀i (h1:i<jU.length) (H:i<gs.length),∃us,el (jS wb cP) J 92 jU[i] us/\fV F wb cP J us gs[i])):=u (gN.mono (by
  rintro e J ⟨gv,cP,rfl,iv,bZ,jU,an,I6,lS⟩;obtain⟨bf,gc,rfl⟩:=cG an;exact⟨bf,_,gc,rfl,u ⟨cP,jU,rfl,iv,bZ,an,I6,lS⟩⟩))
 have OO:=u eo;have qD:=u j0;clear aw ae gN eo j0;have nC:Hid (∀(a:List (List al×ez)) (s:az),k8 a8 ba [] a s=(a,s)):=u (fun _ _=>rfl);generalize oF:k8 a8 ba gs [] st1=gh at *;have ur:Hid (k8 a8 ba (gs.drop 0) [] st1=gh):=u (by rw[List.drop_zero];exact oF);clear oF;go_enter func40,ntmps40;go_upto_region 3 with(go_at_call 69;refine qM.d.mono ?_;rintro e J ⟨bf,cl,gc,rfl,aa⟩);obtain⟨cP,jU,rfl,iv,bZ,an,I6,lS⟩:=aa.d;clear aa;have oI:=u iv;have lk:=u bZ;have e9:=u an;have Hd:=u lS;have Wr:=u I6;have as5:jU.length<=100000:=r;have I7:=u iv.aly;obtain⟨kf,FH⟩:∃kf,kf=xb F wb cP J:=⟨_,rfl⟩;have rY:Hid (∀k,F k->kf k):=u (by rw[FH];exact fun k av=>.inl av)
 have alM:Hid (∀i (h1:i<jU.length) (H:i<gs.length),∃us,(el (jS wb cP) J 92 jU[i] us/\fV F wb cP J us gs[i])/\el kf J 92 jU[i] us/\pZ kf J us gs[i]):=u (by
  intro i h1 H;obtain⟨us,bz,cz⟩:=lS i h1 H;rw[FH];exact⟨us,⟨bz,cz⟩,bz.wide,cz.wide⟩)
 have zp:Hid (∀{W aF s ao},aM kf W wb aF B O ao s->aR wb cP aF J W->aM F W wb aF B O false s):=u (by rw[FH];exact fun a b=>iv.narrow a b);rw[<-FH] at I7;clear iv bZ an lS I6 FH qM;go_loopg [5,13] (jU.length+1) (fun U b0 i wr=>∃(j:Nat) (p9:Option Nat) (c5:az) (aP:List (List al×ez)),j<=jU.length/\i=q (j:Int)/\Hid (aM kf wr wb p9 B O false c5)/\Hid (aR wb cP p9 J wr)/\Hid (cB E c5.ad)/\Hid (l5 F wb J.heap.size p9 wr b0 aP)/\Hid (k8 a8 ba (gs.drop j) aP c5=gh)/\Hid (aP.length<=j)/\jU.length-j<U);case atStart=>exact⟨0,cP,st1,[],bu,rfl,I7,u (aR.refl _ _ _),qD,u l5.nil,ur,u ap,r⟩
 case round=>
  obtain⟨j,p9,c5,aP,aS,rfl,rX,xc,alN,OP,hinv,dI,ae⟩:=hrel;by_cases aD:j<jU.length
  ·have cL:(j:Int)<(jU.length:Int):=r;have vn:j<gs.length:=by have:=Wr.d;omega
   have OQ:=xc.d.l3 oI.d K K e9.d;obtain⟨il,rfl⟩:∃il,bf=some ⟨il,0,none⟩:=by
    rcases OQ.2 with⟨e,aw⟩ | ⟨g,af,ay,e,_⟩
    ·omega
    ·injection e with Y _ _;exact⟨g,Y⟩
   have iV:=OQ.cells rfl j jU[j] (fC aD);rw[Addr.add_lit,ax1] at iV;obtain⟨us,⟨pG,dG⟩,go,fg⟩:=alM.d j aD vn;obtain⟨I8,I9,eZ⟩:=pG.1;have xd:=u (OO.d gs[j] (ec vn));obtain⟨aE,alA,alO,wn,wc,iM,aI,-⟩:=rX.d.at_;have fO:dp wr wb 5=some (.bool c5.dE):=Z aI (i:=5) rfl;have dZ:dp wr wb 3=some (.slice alO wn wc):=Z aI (i:=3) rfl;have f3:wr.frozen? ⟨wb,3,none⟩=false:=aQ aI;have vz:gs.drop j=gs[j]::gs.drop (j+1):=List.drop_eq_getElem_cons vn;have Ja:Hid ((if c5.dE then ([],c5) else k8 a8 ba (gs.drop (j+1)) (aP++(mp a8 ba gs[j] c5).1) (mp a8 ba gs[j] c5).2)=gh):=u (by have:=hinv.d;rw[vz,k8] at this;exact this);have fr:IntKind.i64.wrap ((j:Int)+1)=(j:Int)+1:=mC;obtain⟨AI,hA1,-⟩:=id OP.d
   obtain⟨eL,rc,tP⟩:=cG hA1;subst tP;generalize AI.length=uD at *;have OR:=u ae;have vy:=u aD;rw[eZ] at iV pG go;clear OQ vz hinv ae aI eZ hA1 aD;generalize alP:gs[j]=aG at *;clear alP vn;cases iT:c5.dE with
   | true=>rw[iT] at fO;have OS:Hid (gh=([],c5)):=u (by have:=Ja.d;rw[iT,if_pos rfl] at this;exact this.symm);clear Ja;go_wp2_with fail;go_ret;rw[OS.d];first | exact⟨_,p9,rfl,zp.d rX.d xc.d,lk.d.trans X xc.d,l5.nil⟩ | exact⟨_,rfl,p9,zp.d rX.d xc.d,lk.d.trans X xc.d,l5.nil⟩
   | false=>
    rw[iT] at fO;have kz:wb<J.heap.size:=oI.d.lt;have OT:Hid (k8 a8 ba (gs.drop (j+1)) (aP++(mp a8 ba aG c5).1) (mp a8 ba aG c5).2=gh):=u (by have:=Ja.d;rw[iT,if_neg (by simp)] at this;exact this);have FI:dj kf kf J wr:=xc.d.p4 I7.d.own;have Ws:Ce kf wr (.slice I8 us.length I9) aG:=⟨us,go.move FI,fg.move FI⟩;have FJ:=u (rX.d.bF Ws);have OU:aR wb p9 p9 wr (wr.setCell ⟨wb,3,none⟩ (.slice I8 us.length I9)):=wQ wb p9 3 _;have OV:=OU.p4 rX.d.own;obtain⟨bt,aX,bD,dy,Wt,FK⟩:=alx ((go.move FI).move OV) ((fg.move FI).move OV);have OW:=UA (D:=D) alN.d xd.d.fit;have tD:=Wq OW xd.d.fit;have Wu:=u dy;have alQ:=u OU;have ON:=u Wt;have Wv:=u FK;clear Ja dy OU Wt FK FI Ws OV
    generalize Fs:wr.setCell ⟨wb,3,none⟩ (.slice I8 us.length I9)=Ww at *;have Wx:Hid (∀s b0 aP W,rZ F kf wb cP B O J s b0 aP W->dp W aW 0=some ev/\dp W aW 4=some hv):=u (by
     rintro s b0 aP W ⟨aF,bq,a2,a3⟩;have:=(lk.d.trans X a2).gg cx.d K K ch.d;exact⟨Z this uV,Z this xP⟩)
    have Wy:Hid (ey 71 #[M wb,.slice bt aX bD] Ww fun e S=>e=.returned (.tuple #[])/\Hid (rZ F kf wb cP B O J {c5 with bF:=aG,ad:=c5.ad++aG.headD []} (.slice eL uD rc) aP S)/\dp S aW 4=some hv):=u (by
     refine(Vp (.slice bt aX bD) (aG.headD []) Ww FJ.d ON.d (by show c5.ad.length+_<=_;have:=tD.2;rw[cu] at this;omega)).mono ?_;rintro e S ⟨rfl,gM,bq,a2⟩;have:=rZ.step rY.d kz rX.d xc.d OP.d bq (alQ.d.trans rX.d.lt a2);exact⟨rfl,u this,(Wx.d _ _ _ _ this).2⟩)
    have CA:Hid (∀S,Hid (rZ F kf wb cP B O J {c5 with bF:=aG,ad:=c5.ad++aG.headD []} (.slice eL uD rc) aP S)->ey 72 #[M wb,hv] S fun e aA=>e=.returned (.bool (a8 {c5 with bF:=aG,ad:=c5.ad++aG.headD []}).1)/\Hid (rZ F kf wb cP B O J (a8 {c5 with bF:=aG,ad:=c5.ad++aG.headD []}).2 (.slice eL uD rc) aP aA)/\dp aA aW 0=some ev):=u (by
     intro S aa;obtain⟨gM,bq,a2,a3⟩:=aa.d;refine(xd.d.alJ kf S gM _ rY.d (lk.d.trans X a2) bq OW rfl).mono ?_;rintro e aA ⟨rfl,sl,cN,bL⟩;have:=rZ.step rY.d kz bq a2 a3 cN bL;exact⟨rfl,u this,(Wx.d _ _ _ _ this).1⟩)
    obtain⟨q1,bN⟩:=xd.d.alH {c5 with bF:=aG,ad:=c5.ad++aG.headD []} OW rfl;have CB:=u (alF a8 ba aG c5);have OX:Hid (∀(s:az) (b0:Value) (a:List (List al×ez)) (W:World),cB (h7 E D aG) s.ad->Hid (rZ F kf wb cP B O J s b0 a W)->ey 74 #[M wb,.slice bt aX bD] W fun e cw=>e=.returned (.tuple #[])/\Hid (rZ F kf wb cP B O J {s with ad:=s.ad.take (s.ad.length-(aG.headD []).length)} b0 a cw)):=u (by
     intro s b0 a W av aa;obtain⟨gM,bq,a2,a3⟩:=aa.d;have:=Wq av xd.d.fit;refine(ajn bt aX bD W bq (by rw[Wv.d];exact this.1) r).mono ?_;rintro e cw ⟨rfl,sl,cN,bL⟩;rw[Wv.d] at cN;exact⟨rfl,u (rZ.step rY.d kz bq a2 a3 cN bL)⟩)
    have ik:=OR.d;have pm:¬aW=wb:=fun e=>by obtain⟨as6,C0,bz,cz,fP,mq,alR,-⟩:=cx.d.at_;have:=ch.d;rw[e,alR] at this;injection this with this;injection this with _ this;cases this
    cases pF:(a8 {c5 with bF:=aG,ad:=c5.ad++aG.headD []}).1 with
    | false=>
     rw[pF] at CA CB;have hW:=u (OX.d (a8 {c5 with bF:=aG,ad:=c5.ad++aG.headD []}).2 (.slice eL uD rc) aP);clear OX;generalize e1:a8 {c5 with bF:=aG,ad:=c5.ad++aG.headD []}=iC at *;obtain⟨Gy,dd⟩:=iC;simp only[] at CA hW q1 bN;go_upto_region 8 with fail;go_upto_region 9 with(go_at_call 70;refine Wu.d.mono ?_;rintro e w' ⟨rfl,rfl⟩);go_upto_region 10 with(go_at_call 71;refine Wy.d.mono ?_;rintro e S ⟨rfl,ep,OY⟩);have xA:=u (CA.d S ep);clear ep fO dZ f3 iV Fs;go_upto_region 12 with(go_at_call 72;refine xA.d.mono ?_;rintro e aA ⟨rfl,iu,Wz⟩);have OZ:=u (hW.d aA q1 iu);clear Wz OY iu;go_wp2_with (go_at_call 74;refine OZ.d.mono ?_;rintro e cw ⟨rfl,vb⟩);have ae:=OR.d;have aD:=vy.d;go_roundg (gk-1);case measure=>omega
     case rel=>obtain⟨O0,bq,a2,a3⟩:=vb.d;refine⟨j+1,O0,_,aP,r,by go_num,u bq.Wo,u a2,u (H5 q1 xd.d.fit),u (by first | exact a3 | (push_cast at a3 ⊢;exact a3)),u ?_,u (by have:=dI.d;omega),r⟩;have:=OT.d;rw[CB.d,if_neg (by simp)] at this;simpa using this
    | true=>
     rw[pF] at CA CB;rw[if_pos rfl] at CB;obtain⟨v1,v2⟩:=xd.d.alI _ q1 bN;have O1:Hid (∀aA,Hid (rZ F kf wb cP B O J (a8 {c5 with bF:=aG,ad:=c5.ad++aG.headD []}).2 (.slice eL uD rc) aP aA)->ey 73 #[M wb,ev] aA fun e bI=>∃aC c6 bA hl e2 iL bh,e=.returned (.slice aC c6 bA)/\Hid (∀ty,(Builtin.append_ #[96,96] ty #[.slice eL uD rc,.slice (some ⟨bI.heap.size,0,none⟩) 1 1]).run prog (bI.alloc (.cells #[.slice aC c6 bA,.slice I8 us.length I9,.slice none 0 0] 106))=.ok (.slice hl e2 iL) bh)/\Hid (rZ F kf wb cP B O J (ba (a8 {c5 with bF:=aG,ad:=c5.ad++aG.headD []}).2).2 (.slice hl e2 iL) (aP++[((ba (a8 {c5 with bF:=aG,ad:=c5.ad++aG.headD []}).2).1,aG)]) bh)):=u (by
      intro aA aa;obtain⟨gM,bq,a2,a3⟩:=aa.d;refine(xd.d.alK kf aA gM _ rY.d (lk.d.trans X a2) bq q1 bN).mono ?_;rintro e bI ⟨v,rfl,cN,bL,fS⟩;obtain⟨aC,bA,rfl⟩:=cG cN;have CC:=a2.trans kz fS;obtain⟨cF,bh,bz,cz,fP⟩:=(a3.jp bq rY.d fS).push CC.size (by have:=dI.d;omega) (ei bu cN) (pG.move CC.n3) (dG.move CC.n3 (CC.p4 oI.d.own));obtain⟨as7,h0,-⟩:=id cz;obtain⟨hl,iL,rfl⟩:=cG h0;exact⟨aC,_,bA,hl,_,iL,bh,rfl,u bz,u ⟨gM,fP.alC bL I7.d ap CC.size,fP.jp CC ap,cz⟩⟩)
     have O2:Hid (k8 a8 ba (gs.drop (j+1)) (aP++[((ba (a8 {c5 with bF:=aG,ad:=c5.ad++aG.headD []}).2).1,aG)]) {(ba (a8 {c5 with bF:=aG,ad:=c5.ad++aG.headD []}).2).2 with ad:=(ba (a8 {c5 with bF:=aG,ad:=c5.ad++aG.headD []}).2).2.ad.take ((ba (a8 {c5 with bF:=aG,ad:=c5.ad++aG.headD []}).2).2.ad.length-(aG.headD []).length)}=gh):=u (by
      have:=OT.d;rw[CB.d] at this;exact this)
     clear OT CB;generalize e1:a8 {c5 with bF:=aG,ad:=c5.ad++aG.headD []}=iC at *;obtain⟨Gy,dd⟩:=iC;simp only[] at CA O1 q1 bN v1 v2 O2;generalize tk:ba dd=alS at *;obtain⟨lD,qQ⟩:=alS;simp only[] at O1 v1 v2 O2;go_upto_region 8 with fail;go_upto_region 9 with(go_at_call 70;refine Wu.d.mono ?_;rintro e w' ⟨rfl,rfl⟩);go_upto_region 10 with(go_at_call 71;refine Wy.d.mono ?_;rintro e S ⟨rfl,ep,OY⟩);have xA:=u (CA.d S ep);clear ep fO dZ f3 iV Fs;go_upto_region 11 with(go_at_call 72;refine xA.d.mono ?_;rintro e aA ⟨rfl,iu,Wz⟩);have alT:=u (O1.d aA iu);clear iu OY;go_upto_region 12 with(first | (go_at_call 73;refine alT.d.mono ?_;rintro e bI ⟨aC,c6,bA,hl,e2,iL,bh,rfl,tS,vZ⟩) | (at_builtin;refine Lib.wpList_append_run _ rfl _ _ _ _ rfl _ _ rfl rfl _ _ (tS.d _) ?_))
     have OZ:=u (OX.d qQ (.slice hl e2 iL) (aP++[(lD,aG)]) bh v1 vZ);clear vZ;go_wp2_with (go_at_call 74;refine OZ.d.mono ?_;rintro e cw ⟨rfl,vb⟩);have ae:=OR.d;have aD:=vy.d;go_roundg (gk-1);case measure=>omega
     case rel=>obtain⟨O0,bq,a2,a3⟩:=vb.d;refine⟨j+1,O0,_,aP++[(lD,aG)],r,by go_num,u bq.Wo,u a2,u (H5 v1 xd.d.fit),u (by first | exact a3 | (push_cast at a3 ⊢;exact a3)),O2,u (by rw[cu];have:=dI.d;show _+1<=_;omega),r⟩
  ·have eZ:j=jU.length:=r;subst eZ;have cL:(jU.length:Int)<=(jU.length:Int):=r;have OS:Hid (gh=(aP,c5)):=u (by rw[<-hinv.d,Wr.d,List.drop_length];exact nC.d _ _);clear ae aD hinv;go_wp2_with fail;go_ret;rw[OS.d];exact⟨_,p9,rfl,zp.d rX.d xc.d,lk.d.trans X xc.d,OP.d.low lk.d.size⟩
def al2{st2:az}(w:World)(kD:dp w b 7=some (M aW))(eo:ey 40 #[M wb,M aW] w fun e w'=>∃hI aF,e=.returned hI/\aM F w' wb aF B O false st2/\aR wb G aF w w'/\l5 F wb w.heap.size aF w' hI i1):ey 169 #[M wb,M b] w (li F wb G B O false (rC (!i1.isEmpty)) st2 w):=by
 have OO:Hid (ey 40 #[M wb,M aW] w fun e w'=>∃r0 O5 ac,e=.returned (.slice r0 O5 ac)/\Hid (O5=i1.length/\∃aF,aM F w' wb aF B O false st2/\aR wb G aF w w')):=u (eo.mono (by
  rintro e w' ⟨hI,aF,rfl,bq,a2,rs,a3,a4,-⟩;obtain⟨r0,ac,rfl⟩:=cG a3;exact⟨r0,_,ac,rfl,u ⟨a4,aF,bq,a2⟩⟩))
 have dy:Hid (rC (!i1.isEmpty)=BQ (decide (0<i1.length))):=u (by cases i1<;>simp[rC,BQ]);clear eo;rw[dy.d];go_enter func169,ntmps169;go_wp2_with (first | (go_at_call 40;refine OO.d.mono ?_;rintro e J ⟨r0,O5,ac,rfl,aj⟩) | (go_at_call 243;refine(Mf _ _).mono ?_;rintro e uZ ⟨rfl,rfl⟩));go_ret;obtain⟨p1,aF,p2,fw⟩:=aj.d;refine⟨?_,aF,p2,fw⟩;subst p1;first | rfl | (congr 2;simp) | simp
def oJ(td:List eb)(bd:List bG):Prop:=td.map (fun t=>(t.name,t.bl))=bd.map (fun t=>(t.name,t.bl))
def oJ.names(h:oJ td bd)(name:e6):nK (td.map (·.name)) name=fD bd name:=by
 rw[<-LM];have:td.map (·.name)=bd.map (·.name):=by have:=congrArg (List.map (·.1)) h;rw[List.map_map,List.map_map] at this;exact this
 rw[this]
def oJ.src(h:oJ td bd){s:e6×e6}{aq:dC}(bb:nZ td s.2 s.1=some aq):bO aq=⟨s.2,zQ bd s⟩/\∃i,fD bd s.1=some i:=by
 unfold nZ at bb;rw[h.names] at bb;obtain⟨i,hi,bb⟩:=aV bb;obtain⟨t,au,rfl⟩:=Option.map_eq_some_iff.1 bb;refine⟨?_,i,hi⟩;have h1:(td.map (fun t=>(t.name,t.bl)))[i]?=some (t.name,t.bl):=by rw[List.getElem?_map,au];rfl
 rw[h,List.getElem?_map] at h1;obtain⟨iy,lX,e⟩:=Option.map_eq_some_iff.1 h1;injection e with Y am;unfold bO zQ;rw[hi];simp only[b2,lX,eQ,Option.getD_some];rw[am]
def Jc{td:List eb}{bd:List bG}(h:oJ td bd):∀(V:lh) (I bU:List dC),hd td I V=some bU->bU.map bO=I.map bO++ea bd V/\bU.length=I.length+V.length/\(∀s∈V,∃i,fD bd s.1=some i)/\∃own,bU=I++own/\own.map (·.called)=V.map (·.2)
 | [],I,bU,he=>by
  obtain rfl:I=bU:=by rw[hd] at he;exact bx he
  exact⟨by simp[ea],rfl,fun s hs=>(by cases hs),[],by rw[List.append_nil],rfl⟩
 | s::C,I,bU,he=>by
  rw[hd] at he;cases hs:nZ td s.2 s.1 with
  | none=>rw[hs] at he;cases he
  | some aq=>
   rw[hs] at he;simp only[] at he;split at he
   ·cases he
   ·obtain⟨cn,i2,i3,own,i4,i5⟩:=Jc h C (I++[aq]) bU he;obtain⟨d1,d2⟩:=h.src hs;refine⟨?_,?_,fun x aa=>?_,aq::own,?_,?_⟩
    ·rw[cn,List.map_append,List.append_assoc];show I.map bO++(bO aq::ea bd C)=_;rw[d1];rfl
    ·rw[i2,cu];show I.length+1+C.length=I.length+(C.length+1);omega
    ·rcases List.mem_cons.1 aa with rfl | aa
     ·exact d2
     ·exact i3 x aa
    ·rw[i4,List.append_assoc];rfl
    ·rw[List.map_cons,List.map_cons,i5];have:aq.called=s.2:=by have:=congrArg eO.called d1;exact this
     rw[this]
def FN(I:List eO)(O:Int):aL->List (az->al×az)
 | .cons h t=>ca I O h::FN I O t
 | _=>[]
def WD(I:List eO)(O:Int):∀(e:aL) (st:az),hL I O e st=kS (FN I O e) st
 | .nil,_=>rfl
 | .cons h t,st=>by rw[hL,FN,kS,WD I O t]
 | .node ..,_=>rfl
 | .query ..,_=>rfl
def WE{B:List eb}{F:Nat->Prop}{wb:Nat}{G:Option Nat}{bd:List bG}{O:Int}{ao:Bool}{I:List dC}(dA : -1000000000000<=O)(er:O<=1000000000000)(he:I.length<=1000)(L:Nat):∀(e:aL) (w:World) (lo hi:Nat) (xs:List Value) (fZ:az),aJ e 3->ke I L e->(dJ e=true->ao=true)->aM F w wb G bd O ao fZ->dK B w e I lo hi xs->xe F wb G bd O ao (po I L ao) w xs (FN (I.map bO) O e)
 | .nil,w,lo,hi,xs,fZ,_,_,_,_,aj=>by obtain⟨_,rfl⟩:=aj;exact trivial
 | .cons h t,w,lo,hi,xs,fZ,R,ai,ak,hw,aj=>by obtain⟨jO,gt⟩:=Ib R;obtain⟨m,v,C,rfl,p1,p2⟩:=aj;obtain⟨b,A⟩:=p1.qJ (jN jO (.inl rfl));injection A with A _;subst A;have WF:dJ h=true->ao=true:=fun e=>ak (by rw[dJ,e,Bool.true_or]);refine⟨⟨IP dA er he L (cp h) h ap w lo m b fZ jO ai.1 WF hw p1,fun st hs=>?_⟩,WE dA er he L t w m hi C fZ gt ai.2 (fun e=>ak (by rw[dJ,e,Bool.or_true])) hw p2⟩;obtain⟨_,f2,f3,_⟩:=Co (I:=I.map bO) dA er jO WF hs.1;exact⟨f2,fun x y=>by rw[f3];exact hs.2 x y⟩
 | .node ..,_,_,_,_,_,R,_,_,_,_=>by obtain⟨_,_,h⟩:=R;rcases h with⟨h,_⟩ | ⟨h,_⟩ | ⟨h,_⟩<;>omega
 | .query ..,_,_,_,_,_,R,_,_,_,_=>by have:=R.1;omega
def rE.Jd{I own:List dC}{l:lh}(fs:own.map (·.called)=l.map (·.2))(X:1<=l.length):∀{t:aL},rE l t->ke (I++own) I.length t
 | .nil,_=>trivial
 | .cons _ _,h=>⟨rE.Jd fs X h.1,rE.Jd fs X h.2⟩
 | .node k s n v p U,h=>by
  refine⟨fun hk x aa=>?_,?_⟩
  ·obtain⟨h1,_,ab,_⟩:=EL aa;rcases Nat.lt_or_ge x.1 I.length with lq | lq
   ·exact lq
   ·exfalso;have ad2:own.length=l.length:=by have:=congrArg List.length fs;simpa using this
    have qK:x.1-I.length<own.length:=by rw[cu] at h1;omega
    have Y:(I++own)[x.1]=own[x.1-I.length]:=List.getElem_append_right lq;have am:own[x.1-I.length].called=l[x.1-I.length].2:=by
     have bq:(own.map (·.called))[x.1-I.length]?=some own[x.1-I.length].called:=by rw[List.getElem?_map,fC qK];rfl
     rw[fs,List.getElem?_map,fC r] at bq;injection bq with bq;exact bq.symm
    have:=h.1 hk _ (ec (by omega:x.1-I.length<l.length));rw[Y] at ab;exact this (am.symm.trans ab)
  ·rcases h.2 with⟨a,b⟩ | H
   ·refine .inl ⟨a,b,?_⟩;have:=congrArg List.length fs;rw[cZ,cZ] at this;rw[cu];omega
   ·exact .inr (rE.Jd fs X H)
 | .query ..,_=>trivial
def al3{wh g h:aL}(R:aJ (.query e V wh g h) 2)(aj:dK td w (.query e V wh g h) I lo hi [M b]):ey 107 #[M b] w fun x w'=>x=.returned (.bool (wD e g h))/\eB w w':=by
 obtain⟨_,ge,yj,rM,Je,mU,il,al4,jO⟩:=R;obtain⟨bU,kH,l1,m1,m2,m3,h1,ev,sv,gv,es,ws,gs,hs,bQ,dd,ak,-,A,cX,cA,AV,hx,dL,jk,jM⟩:=aj;injection bQ with bQ _;injection bQ with bQ;injection bQ with bQ;injection bQ with bQ;subst bQ;have EO:=qI ge (.inl rfl);obtain⟨_,_,_,_,_,_,_,EE⟩:=vf il (.inr (.inl rfl)) jk.is;obtain⟨MO,Ac,EP,MP,Ad⟩:=(B1 HR l0 ge hx HS).2 EO r;have EQ:eK w gv gs:=ei bu AV;obtain⟨bf,o4,rfl⟩:=cG EQ;have MQ:(jj hs=.pointer none/\(!isNone h)=false)\/∃a,jj hs=.pointer (some a)/\(!isNone h)=true:=by
  cases h with
  | nil=>obtain⟨-,rfl⟩:=jM;exact .inl ⟨rfl,rfl⟩
  | cons=>simp[aJ] at jO
  | query=>simp[aJ] at jO
  | node k s dQ v p U=>obtain⟨cN,Y⟩:=jM.qJ trivial;subst Y;exact .inr ⟨_,rfl,rfl⟩
 have:=T7 b gs.length o4 bf ev sv (jj ws) (jj hs) es MO w A (!isNone h) MQ (ei bu cX) (h3.MK Ac) r;rw[EP,EE] at this;have kX:(decide (0<dH g)||!isNone h||ga l0 e)=wD e g h:=by
  unfold wD;rw[aj0];have:decide (0<dH g) = !isNone g:=by
   cases g with
   | nil=>rfl
   | cons a C=>simp[dH,isNone]
   | node=>exact absurd (qI il (.inr (.inl rfl))) (by simp[lx])
   | query=>exact absurd (qI il (.inr (.inl rfl))) (by simp[lx])
  rw[this]
 rw[kX] at this;exact this
def Jf(td:List eb)(bd:List bG)(O:Int)(t:aL):Prop:=∀(F:Nat->Prop) (wb:Nat) (G:Option Nat) (ao:Bool) (I:List dC) (L:Nat) (w:World) (lo hi b:Nat) (st:az),aJ t 1->mr t->I.length+3*nq t<=900->(dJ t=true->ao=true)->(ao=true->dw t=false)->(dw t=true->L=I.length)->ke I L t->F 2->kQ w->dK td w t I lo hi [M b]->aM F w wb G bd O ao st->po I L ao st->(dw t=true->∃m,gI m st/\m+1000000000000*nq t<=400000000000000)->ey 115 #[M wb,M b] w (li F wb G bd O ao (bR bd O t (I.map bO) st).1 (bR bd O t (I.map bO) st).2.2 w)
def Jg(td:List eb)(bd:List bG)(O:Int)(t:aL):Prop:=∀(F:Nat->Prop) (wb:Nat) (G:Option Nat) (I:List dC) (w:World) (lo hi b:Nat) (st:az) (m:Nat),aJ t 2->mr t->I.length+3*nq t<=900->F 2->kQ w->dK td w t I lo hi [M b]->aM F w wb G bd O false st->cB (I.map bO) st.ad->gI m st->m+1000000000000*nq t<=400000000000000->ey 40 #[M wb,M b] w fun e w'=>∃hI aF,e=.returned hI/\aM F w' wb aF bd O false (bR bd O t (I.map bO) st).2.2/\aR wb G aF w w'/\l5 F wb w.heap.size aF w' hI (bR bd O t (I.map bO) st).2.1
def po.expr(dA : -1000000000000<=O)(er:O<=1000000000000)(R:aJ t 0)(ak:dJ t=true->ao=true)(h:po I L ao st):fv (ca (I.map bO) O t st).1/\po I L ao (ca (I.map bO) O t st).2:=by obtain⟨f1,f2,f3,_⟩:=Co (I:=I.map bO) dA er R ak h.1;exact⟨f1,f2,fun x y=>by rw[f3];exact h.2 x y⟩
def WG(aj:dK td w (.cons a (.cons bL .nil)) I lo hi xs)(rJ:ms a)(nb:ms bL):∃hM hb l1 bT,xs=[M hM,M hb]/\dK td w a I lo l1 [M hM]/\dK td w bL I l1 bT [M hb]:=by obtain⟨m,v,C,rfl,p1,pQ,cF,lK,rfl,p2,_,rfl⟩:=aj;obtain⟨hM,Y⟩:=p1.qJ rJ;obtain⟨hb,am⟩:=p2.qJ nb;injection Y with Y _;injection am with am _;subst Y am;exact⟨hM,hb,m,pQ,rfl,p1,p2⟩
def WH(aj:dK td w (.cons a .nil) I lo hi xs)(rJ:ms a):∃hM l1,xs=[M hM]/\dK td w a I lo l1 [M hM]:=by obtain⟨m,v,C,rfl,p1,_,rfl⟩:=aj;obtain⟨hM,Y⟩:=p1.qJ rJ;injection Y with Y _;subst Y;exact⟨hM,m,rfl,p1⟩
def al5(dA : -1000000000000<=O)(er:O<=1000000000000){s n:e6}{v:al}(aI:16<=k)(aZ:k<=18)(bf:aJ a 0)(ij:aJ bL 0)(he:I.length<=1000)(qT:dJ a=true->ao=true)(pA:dJ bL=true->ao=true)(gB:ke I L a)(dx:ke I L bL)(aj:dK td w (.node k s n v (.cons a (.cons bL .nil)) .nil) I lo hi [M b])(h:aM F w wb G bd O ao st)(av:po I L ao st):ey 115 #[M wb,M b] w (li F wb G bd O ao (pP k (ca (I.map bO) O a st).1 (ca (I.map bO) O bL (ca (I.map bO) O a st).2).1) (ca (I.map bO) O bL (ca (I.map bO) O a st).2).2 w):=by
 obtain⟨cs,co,xs,l1,m,A,bk,jy,an,n2⟩:=aj.parts;obtain⟨hM,hb,q1,bN,rfl,pa,O6⟩:=WG n2 (jN bf (.inl rfl)) (jN ij (.inl rfl));have bc:=(br A).1;have cM:=Z A bk;have eo:=IP dA er he L (cp a) a ap w _ _ hM st bf gB qT h pa;have dT:=IP dA er he L (cp bL) bL ap w _ _ hb st ij dx pA h O6;obtain⟨v1,f1⟩:=av.expr dA er bf qT;have bn:∀W,aR wb G G w W->aM F W wb G bd O ao st->_:=fun W hk aO=>aj7 (ok:=po I L ao) b co _ _ cs (ca (I.map bO) O a) (ca (I.map bO) O bL) W aO av f1 v1.kind (hk.gg h K K A) jy (hk.l3 h K K an) (eo.later h.lt hk) (dT.later h.lt hk);rcases(by omega:k=16\/k=17\/k=18) with rfl | rfl | rfl
 ·exact aj9 16 170 16 (by simp) b _ w h cM bc (fun W hk aO=>akl b _ _ W aO (bn W hk aO))
 ·exact aj9 17 171 17 (by simp) b _ w h cM bc (fun W hk aO=>akm b _ _ W aO (bn W hk aO))
 ·exact aj9 18 172 18 (by simp) b _ w h cM bc (fun W hk aO=>akn b _ _ W aO (bn W hk aO))
def WI(h:cB (I.map bO) st.ad):po I I.length false st:=by refine⟨⟨?_,fun e=>by cases e⟩,fun _ e=>by cases e⟩;rw[show I.length=(I.map bO).length by rw[cZ],List.take_length];exact h
def al6(h:po I I.length ao st):cB (I.map bO) st.ad:=by have:=h.1.ad;rw[show I.length=(I.map bO).length by rw[cZ],List.take_length] at this;exact this
def O7{td:List eb}{bd:List bG}{O:Int}(bi:nW bd)(dA : -1000000000000<=O)(er:O<=1000000000000){I:List dC}{L:Nat}{ao:Bool}{a:aL}{st:az}{m:Nat}(bf:aJ a 1)(eD:mr a)(qT:dJ a=true->ao=true)(C6:ao=true->dw a=false)(av:po I L ao st)(hw:dw a=true->gI m st):po I L ao (bR bd O a (I.map bO) st).2.2/\(gI m st->gI (m+1000000000000*nq a) (bR bd O a (I.map bO) st).2.2)/\0<=(bR bd O a (I.map bO) st).1/\(bR bd O a (I.map bO) st).1<=2:=by
 obtain⟨⟨bz,cz⟩,fP,mq,_,Oh⟩:=(ym bi dA er (eY a) a ap).1 (I.map bO) ((I.map bO).take L) st m bf eD av.1.ad (fun e=>⟨(av.1.aG (qT e)).1,C6 (qT e)⟩) hw;refine⟨⟨⟨fP,fun e=>?_⟩,fun X e=>?_⟩,mq,bz,cz⟩
 ·rw[(Oh (C6 e)).1];exact av.1.aG e
 ·rw[(Oh (C6 e)).1];exact av.2 X e
def al7(bi:nW bd)(dA : -1000000000000<=O)(er:O<=1000000000000)(aH:∀t,cp t<=n->Jf td bd O t/\Jg td bd O t):∀t,cp t<=n+1->Jf td bd O t:=by
 intro t hs F wb G ao I L w lo hi b st R cv eU oA C6 fa yB hF au aj h av hw;have X:=h.lt;rcases Ca R with⟨k,s,dQ,v,a,bL,rfl,aI,aZ,bf,ij⟩ | ⟨s,dQ,v,a,rfl,bf⟩ | ⟨k,s,dQ,v,a,bL,rfl,aI,aZ,bf,ij⟩ | ⟨s,dQ,v,a,rfl,bf⟩ | ⟨s,dQ,v,U,rfl,qL⟩
 ·have wz:ke I L a/\ke I L bL:=by
   rcases yB.2 with⟨b5,HG,_⟩ | h
   ·omega
   ·exact⟨h.1,h.2.1⟩
  rw[H8,if_neg r,if_neg r];exact al5 dA er aI aZ bf ij r (fun e=>oA (sH (by rw[dJ,e,Bool.true_or]))) (fun e=>oA (sH (by rw[dJ,dJ,e,Bool.true_or,Bool.or_true]))) wz.1 wz.2 aj h av
 ·have FO:ke I L a:=by
   rcases yB.2 with⟨b5,HG,_⟩ | h
   ·omega
   ·exact h.1
  rw[H9,if_neg r];have qT:dJ a=true->ao=true:=fun e=>oA (sH (by rw[dJ,e,Bool.true_or]));obtain⟨cs,co,xs,l1,m,A,bk,jy,an,n2⟩:=aj.parts;obtain⟨hM,q1,rfl,pa⟩:=WH n2 (jN bf (.inl rfl));have eo:=IP dA er r L (cp a) a ap w _ _ hM st bf FO qT h pa;exact aj9 19 173 19 (by simp) b _ w h (Z A bk) (br A).1 (fun W hk aO=>akk (ok:=po I L ao) b co _ cs (ca (I.map bO) O a) W aO av (hk.gg h K K A) jy (hk.l3 h K K an) (eo.later X hk))
 ·have ff:cp (.node k s dQ v (.cons a (.cons bL .nil)) .nil)=cp a+(cp bL+0+1)+1+0+1:=rfl;have mW:nq (.node k s dQ v (.cons a (.cons bL .nil)) .nil)=nq a+(nq bL+0)+0:=rfl;have hex:dw (.node k s dQ v (.cons a (.cons bL .nil)) .nil)=(dw a||(dw bL||false)):=by rw[dw,dw,dw,dw,ax2 r,Bool.false_or]
  rw[hex] at C6 fa hw;rw[mW] at eU hw;have wz:ke I L a/\ke I L bL:=by
   rcases yB.2 with⟨b5,HG,_⟩ | h
   ·omega
   ·exact⟨h.1,h.2.1⟩
  obtain⟨⟨eD,yn,_⟩,_⟩:=cv;have qT:dJ a=true->ao=true:=fun e=>oA (sH (by rw[dJ,e,Bool.true_or]));have pA:dJ bL=true->ao=true:=fun e=>oA (sH (by rw[dJ,dJ,e,Bool.true_or,Bool.or_true]));have o3:ao=true->dw a=false:=fun e=>(Bool.or_eq_false_iff.1 (C6 e)).1;have bQ:ao=true->dw bL=false:=fun e=>by simpa using (Bool.or_eq_false_iff.1 (C6 e)).2
  have hm:∃m,(dw a=true\/dw bL=true->gI m st)/\m+1000000000000*(nq a+nq bL)<=400000000000000\/(dw a=false/\dw bL=false):=by
   by_cases aa:dw a=true\/dw bL=true
   ·obtain⟨m,m1,m2⟩:=hw (by rcases aa with e | e<;>rw[e]<;>simp);exact⟨m,.inl ⟨fun _=>m1,r⟩⟩
   ·have h1:dw a=false:=by cases e:dw a;rfl;exact absurd (.inl e) aa
    have H:dw bL=false:=by cases e:dw bL;rfl;exact absurd (.inr e) aa
    exact⟨0,.inr ⟨h1,H⟩⟩
  obtain⟨m,hm⟩:=hm;have Fj:dw a=true->gI m st:=fun e=>by
   rcases hm with⟨x,_⟩ | ⟨x,_⟩
   ·exact x (.inl e)
   ·rw[x] at e;cases e
  obtain⟨f1,J,-,-⟩:=O7 (td:=td) bi dA er bf eD qT o3 av Fj;obtain⟨cs,co,xs,l1,pQ,A,bk,jy,an,n2⟩:=aj.parts;obtain⟨hM,hb,q1,bN,rfl,pa,O6⟩:=WG n2 (jN bf (.inr (.inl rfl))) (jN ij (.inr (.inl rfl)));have na:∀W,aR wb G G w W->yD F wb G bd O ao (fun s=>s=st) W (M hM) (fun s=>((bR bd O a (I.map bO) s).1,(bR bd O a (I.map bO) s).2.2)):=fun W hk w' aF s gi qU hs=>by
   subst hs;have pw:=hk.trans X gi;exact(aH a r).1 F wb aF ao I L w' _ _ hM s bf eD r qT o3 (fun e=>fa (by rw[e];rfl)) wz.1 hF (au.jp h hF pw) (pw.qO h pa) qU av (fun e=>by
    rcases hm with⟨x,y⟩ | ⟨x,_⟩
    ·exact⟨m,x (.inl e),r⟩
    ·rw[x] at e;cases e)
  have gu:∀W,aR wb G G w W->yD F wb G bd O ao (fun s=>s=(bR bd O a (I.map bO) st).2.2) W (M hb) (fun s=>((bR bd O bL (I.map bO) s).1,(bR bd O bL (I.map bO) s).2.2)):=fun W hk w' aF s gi qU hs=>by
   subst hs;have pw:=hk.trans X gi;exact(aH bL r).1 F wb aF ao I L w' _ _ hb _ ij yn r pA bQ (fun e=>fa (by rw[e];simp)) wz.2 hF (au.jp h hF pw) (pw.qO h O6) qU f1 (fun e=>by
    rcases hm with⟨x,y⟩ | ⟨_,x⟩
    ·exact⟨_,J (x (.inr e)),r⟩
    ·rw[x] at e;cases e)
  have cM:=Z A bk;have bc:=(br A).1;rw[H8];rcases(by omega:k=12\/k=13) with rfl | rfl
  ·rw[if_pos rfl];exact aj9 12 166 12 (by simp) b _ w h cM bc (fun W hk aO=>akh (ok:=fun s=>s=st) (vo:=fun s=>s=(bR bd O a (I.map bO) st).2.2) b co _ _ cs (fun s=>((bR bd O a (I.map bO) s).1,(bR bd O a (I.map bO) s).2.2)) (fun s=>((bR bd O bL (I.map bO) s).1,(bR bd O bL (I.map bO) s).2.2)) W aO rfl rfl (hk.gg h K K A) jy (hk.l3 h K K an) (na W hk) (gu W hk))
  ·rw[if_neg r,if_pos rfl];exact aj9 13 167 13 (by simp) b _ w h cM bc (fun W hk aO=>aki (ok:=fun s=>s=st) (vo:=fun s=>s=(bR bd O a (I.map bO) st).2.2) b co _ _ cs (fun s=>((bR bd O a (I.map bO) s).1,(bR bd O a (I.map bO) s).2.2)) (fun s=>((bR bd O bL (I.map bO) s).1,(bR bd O bL (I.map bO) s).2.2)) W aO rfl rfl (hk.gg h K K A) jy (hk.l3 h K K an) (na W hk) (gu W hk))
 ·have ff:cp (.node 14 s dQ v (.cons a .nil) .nil)=cp a+0+1+0+1:=rfl;have mW:nq (.node 14 s dQ v (.cons a .nil) .nil)=nq a+0+0:=rfl;have hex:dw (.node 14 s dQ v (.cons a .nil) .nil)=(dw a||false):=by rw[dw,dw,dw,ax2 r,Bool.false_or]
  rw[hex,Bool.or_false] at C6 fa hw;rw[mW] at eU hw;have FO:ke I L a:=by
   rcases yB.2 with⟨b5,HG,_⟩ | h
   ·omega
   ·exact h.1
  have eD:=cv.1.1;have qT:dJ a=true->ao=true:=fun e=>oA (sH (by rw[dJ,e,Bool.true_or]));have eN:0<=(bR bd O a (I.map bO) st).1/\(bR bd O a (I.map bO) st).1<=2:=by
   by_cases aa:dw a=true
   ·obtain⟨m,m1,_⟩:=hw aa;exact(O7 (td:=td) bi dA er bf eD qT C6 av (fun _=>m1)).2.2
   ·exact(O7 (td:=td) (m:=0) bi dA er bf eD qT C6 av (fun e=>absurd e aa)).2.2
  obtain⟨cs,co,xs,l1,pQ,A,bk,jy,an,n2⟩:=aj.parts;obtain⟨hM,q1,rfl,pa⟩:=WH n2 (jN bf (.inr (.inl rfl)));have na:∀W,aR wb G G w W->yD F wb G bd O ao (fun s=>s=st) W (M hM) (fun s=>((bR bd O a (I.map bO) s).1,(bR bd O a (I.map bO) s).2.2)):=fun W hk w' aF s gi qU hs=>by subst hs;have pw:=hk.trans X gi;exact(aH a r).1 F wb aF ao I L w' _ _ hM s bf eD r qT C6 fa FO hF (au.jp h hF pw) (pw.qO h pa) qU av hw
  rw[H9,if_pos rfl];exact aj9 14 168 14 (by simp) b _ w h (Z A bk) (br A).1 (fun W hk aO=>akj (ok:=fun s=>s=st) b co _ cs (fun s=>((bR bd O a (I.map bO) s).1,(bR bd O a (I.map bO) s).2.2)) W aO rfl eN.1 eN.2 (hk.gg h K K A) jy (hk.l3 h K K an) (na W hk))
 ·have ff:cp (.node 15 s dQ v .nil U)=0+cp U+1:=rfl;have mW:nq (.node 15 s dQ v .nil U)=0+nq U:=rfl;have hex:dw (.node 15 s dQ v .nil U)=true:=by rw[dw];rfl
  have al8:ao=false:=by cases e:ao;rfl;have:=C6 e;rw[hex] at this;cases this
  subst al8;obtain rfl:L=I.length:=fa hex;obtain⟨m,m1,m2⟩:=hw hex;rw[mW] at eU m2;obtain⟨kH,l1,pQ,h1,co,xs,qs,p0,p1,p2,e,-,A,ag,-,n2,EN⟩:=aj;injection e with e _;injection e with e;injection e with e;injection e with e;subst e;obtain⟨aW,rfl⟩:∃aW,qs=[M aW]:=by
   cases U with
   | nil=>simp[aJ] at qL
   | cons=>simp[aJ] at qL
   | node=>obtain⟨_,_,x⟩:=qL;rcases x with⟨x,_⟩ | ⟨x,_⟩ | ⟨x,_⟩<;>omega
   | query=>obtain⟨_,bN,_,_,_,_,_,_,_,_,_,_,_,_,ae,_⟩:=EN;exact⟨bN,ae⟩
  rw[UC,if_pos rfl];refine aj9 15 169 15 (by simp) b _ w h (Z A (i:=0) rfl) (br A).1 (fun W hk aO=>al2 W (Z (hk.gg h K K A) (i:=7) rfl) ((aH U r).2 F wb G I W _ _ aW st m qL cv.2 r hF (au.jp h hF hk) (hk.qO h EN) aO (al6 av) m1 r))
def WJ:∀(l:lh) (i:Nat) (h:i<l.length),(lj l)[i*2]?=some (.string l[i].1)/\(lj l)[i*2+1]?=some (.string l[i].2)
 | [],_,h=>absurd h (fp _)
 | s::C,0,_=>⟨rfl,rfl⟩
 | s::C,i+1,h=>by have e:lj (s::C)=.string s.1 :: .string s.2::lj C:=rfl;have:=WJ C i (by simpa using h);rw[e,show(i+1)*2=i*2+1+1 by omega];simpa using this
def WK{sv:Value}(h:w.ownsRow lo 161 2 sv V.length (lj V)):qS w sv V:=by
 rcases h.2 with⟨rfl,aY⟩ | ⟨g,af,ay,rfl,q1,bN,fR,iK,j4,km⟩
 ·exact⟨⟨none,0,by rw[aY],r⟩,fun a n c _ aw=>r⟩
 ·refine⟨⟨_,af,rfl,fR⟩,fun a n c e _=>?_⟩;injection e with e _ _;refine⟨g,0,ay,e.symm,bN,fun i hi=>?_⟩;obtain⟨bz,cz⟩:=WJ V i hi;rw[<-km,List.getElem?_take_of_lt r,Array.getElem?_toList] at bz cz;rw[ax1];exact⟨bz,cz⟩
def O8:∀{t:aL},aJ t 5->aJ t 3
 | .nil,_=>.inl rfl
 | .cons h t,R=>by
  have en:aJ h 7/\aJ t 5:=by
   rcases R with⟨h,_⟩ | ⟨_,h1,H⟩ | ⟨h,_⟩
   ·omega
   ·exact⟨h1,H⟩
   ·omega
  have aw:aJ h 0:=by
   cases h with
   | nil=>have:=en.1;simp[aJ] at this
   | cons=>have:=en.1;simp[aJ] at this
   | query=>have:=en.1;simp[aJ] at this
   | node k s n v p U=>
    obtain⟨bq,a2,a3⟩:=en.1;refine⟨bq,a2,?_⟩;rcases a3 with⟨x,y,z⟩ | ⟨x,_⟩ | ⟨x,_⟩
    ·exact .inl ⟨.inl ⟨rfl,r,r⟩,y,z⟩
    ·omega
    ·omega
  exact .inl ⟨rfl,aw,O8 en.2⟩
 | .node ..,R=>by obtain⟨_,_,h⟩:=R;rcases h with⟨h,_⟩ | ⟨h,_⟩ | ⟨h,_⟩<;>omega
 | .query ..,R=>by have:=R.1;omega
def O9:∀{t:aL},aJ t 5->dJ t=false
 | .nil,_=>rfl
 | .cons h t,R=>by
  have en:aJ h 7/\aJ t 5:=by
   rcases R with⟨h,_⟩ | ⟨_,h1,H⟩ | ⟨h,_⟩
   ·omega
   ·exact⟨h1,H⟩
   ·omega
  have aw:dJ h=false:=by
   cases h with
   | nil=>have:=en.1;simp[aJ] at this
   | cons=>have:=en.1;simp[aJ] at this
   | query=>have:=en.1;simp[aJ] at this
   | node k s n v p U=>
    obtain⟨_,X,aa⟩:=en.1;obtain rfl:k=1:=by rcases aa with⟨aa,_⟩ | ⟨aa,_⟩ | ⟨aa,_⟩<;>omega
    have ix:aJ p 3:=by
     rcases aa with⟨_,h,_⟩ | ⟨aa,_⟩ | ⟨aa,_⟩
     ·exact h
     ·omega
     ·omega
    cases p with
    | nil=>rfl
    | cons a C=>have:arity 1=0:=rfl;rw[this] at X;simp[dH] at X
    | node=>simp[aJ] at ix
    | query=>simp[aJ] at ix
  rw[dJ,aw,O9 en.2];rfl
 | .node ..,R=>by obtain⟨_,_,h⟩:=R;rcases h with⟨h,_⟩ | ⟨h,_⟩ | ⟨h,_⟩<;>omega
 | .query ..,R=>by have:=R.1;omega
def WL{ws:List Value}(g:aJ t 4)(aj:dK td W t I lo hi ws)(h:aM F W wb G bd O ao s)(aN:∀b,aJ t 1->ws=[M b]->ey 115 #[M wb,M b] W (li F wb G bd O ao (bR bd O t E s).1 (bR bd O t E s).2.2 W)):ey 72 #[M wb,jj ws] W (Cq F wb G bd O ao (iZ (bR bd O t E) t s).1 (iZ (bR bd O t E) t s).2 W):=by
 rcases Hw g with rfl | g1
 ·obtain⟨-,rfl⟩:=aj;exact ako W h
 ·obtain⟨b,rfl⟩:=aj.qJ (jN g1 (.inr (.inl rfl)));have e:isNone t=false:=by
   cases t with
   | nil=>simp[aJ] at g1
   | cons=>rfl
   | node=>rfl
   | query=>rfl
  unfold iZ;rw[e];exact akp _ W (aN b g1 rfl)
def WM{es:List Value}(dA : -1000000000000<=O)(er:O<=1000000000000)(he:I.length<=1000)(ge:aJ e 3)(ai:ke I L e)(ak:dJ e=true->ao=true)(X:dH e<=5000)(aj:dK td W e I lo hi es)(ag:eK W ev es)(h:aM F W wb G bd O ao s)(av:po I L ao s):ey 73 #[M wb,ev] W fun x w'=>∃v,x=.returned v/\w'.ownsRow W.heap.size 112 3 v (hL (I.map bO) O e s).1.length (fc (hL (I.map bO) O e s).1)/\aM F w' wb G bd O ao (hL (I.map bO) O e s).2/\aR wb G G W w':=by
 have FA:es.length=dH e:=(vf ge (.inl rfl) aj.is).choose_spec.2.2.2.2.2.2;refine(alV ev es (FN (I.map bO) O e) W h av ag (WE dA er he L e W lo hi es s ge ai ak h aj) r).mono ?_;rintro x w' ⟨v,rfl,bq,a2,a3,_⟩;rw[<-WD] at bq a2;exact⟨v,rfl,bq,a2,a3⟩
def CF:∀{t:aL} {tag:Nat},aJ t tag->(tag=0\/tag=3)->nq t=0
 | .nil,_,_,_=>rfl
 | .cons h t,tag,R,au=>by
  have en:aJ h 0/\aJ t 3:=by
   rcases R with⟨_,h1,H⟩ | ⟨h,_⟩ | ⟨h,_⟩
   ·exact⟨h1,H⟩
   ·omega
   ·omega
  show nq h+nq t=0;rw[CF en.1 (.inl rfl),CF en.2 (.inr rfl)]
 | .node k s n v p U,tag,R,au=>by
  obtain⟨_,_,aa⟩:=R;rcases aa with⟨_,ix,rfl⟩ | ⟨x,_⟩ | ⟨x,_⟩
  ·show nq p+0=0;rw[CF ix (.inr rfl)]
  ·omega
  ·omega
 | .query ..,tag,R,au=>by have:=R.1;omega
def al9:∀{t:aL},aJ t 1->dw t=false->nq t=0:=by
 intro t;have key:∀(n:Nat) (t:aL),cp t<=n->aJ t 1->dw t=false->nq t=0:=by
  intro n;induction n with
  | zero=>intro t hs R;rcases Ca R with⟨_,_,_,_,_,_,rfl,_⟩ | ⟨_,_,_,_,rfl,_⟩ | ⟨_,_,_,_,_,_,rfl,_⟩ | ⟨_,_,_,_,rfl,_⟩ | ⟨_,_,_,_,rfl,_⟩<;>simp[cp] at hs
  | succ n aH=>
   intro t hs R aa;rcases Ca R with⟨k,s,dQ,v,a,bL,rfl,aI,aZ,bf,ij⟩ | ⟨s,dQ,v,a,rfl,bf⟩ | ⟨k,s,dQ,v,a,bL,rfl,aI,aZ,bf,ij⟩ | ⟨s,dQ,v,a,rfl,bf⟩ | ⟨s,dQ,v,U,rfl,qL⟩
   ·show nq a+(nq bL+0)+0=0;rw[CF bf (.inl rfl),CF ij (.inl rfl)]
   ·show nq a+0+0=0;rw[CF bf (.inl rfl)]
   ·have ff:cp (.node k s dQ v (.cons a (.cons bL .nil)) .nil)=cp a+(cp bL+0+1)+1+0+1:=rfl;have hex:dw (.node k s dQ v (.cons a (.cons bL .nil)) .nil)=(dw a||(dw bL||false)):=by rw[dw,dw,dw,dw,ax2 r,Bool.false_or]
    rw[hex] at aa;obtain⟨bz,cz⟩:=Bool.or_eq_false_iff.1 aa;show nq a+(nq bL+0)+0=0;rw[aH a r bf bz,aH bL r ij (by simpa using cz)]
   ·have ff:cp (.node 14 s dQ v (.cons a .nil) .nil)=cp a+0+1+0+1:=rfl;have hex:dw (.node 14 s dQ v (.cons a .nil) .nil)=(dw a||false):=by rw[dw,dw,dw,ax2 r,Bool.false_or]
    rw[hex] at aa;show nq a+0+0=0;rw[aH a r bf (by simpa using aa)]
   ·have hex:dw (.node 15 s dQ v .nil U)=true:=by rw[dw];rfl
    rw[hex] at aa;cases aa
 exact key (cp t) t ap
def WN(he:bU.map bO=I.map bO++D)(aG:ez):((bU.map bO).take (h7 (I.map bO) D aG).length)=h7 (I.map bO) D aG:=by
 rw[he];unfold h7;split
 ·rw[List.take_left'];rfl
 ·rw[List.take_length]
def WO(he:bU.map bO=I.map bO++D)(ag:cB (h7 (I.map bO) D aG) s.ad)(hs:s.bF=aG)(R:∀c∈aG,cB D c)(X:aG.length<=20000)(Bd:1<=D.length):po bU (h7 (I.map bO) D aG).length true s:=by
 have FA:bU.length=(I.map bO).length+D.length:=by have:=congrArg List.length he;rwa [cZ,cu] at this
 refine⟨⟨by rw[WN he];exact ag,fun _=>⟨by rw[WN he,hs];exact H6 R X,fun c ai=>?_⟩⟩,fun aD _=>?_⟩
 ·rw[hs] at ai;rw[(R c ai).len];exact Bd
 ·rw[hs];unfold h7 at aD;split at aD
  ·assumption
  ·rw[cu] at aD;omega
def WP{own:List dC}{l:lh}(he:bU.map bO=I.map bO++D)(rN:bU=I++own)(z6:own.map (·.called)=l.map (·.2))(X:1<=l.length)(b8:aG=[]->rE l t):ke bU (h7 (I.map bO) D aG).length t:=by
 have FA:bU.length=(I.map bO).length+D.length:=by have:=congrArg List.length he;rwa [cZ,cu] at this
 unfold h7;split
 ·rw[cZ,rN];exact rE.Jd z6 X (b8 (by assumption))
 ·rw[cu];exact ke.all r t
def ama(bi:nW bd)(b1:oJ td bd)(dA : -1000000000000<=O)(er:O<=1000000000000)(aH:∀t,cp t<=n->Jf td bd O t/\Jg td bd O t):∀t,cp t<=n+1->Jg td bd O t:=by
 intro t hs F wb G I w lo hi b st m R cv eU hF au aj h ag hw hm;have X:=h.lt;cases t with
 | nil=>simp[aJ] at R
 | cons=>simp[aJ] at R
 | node=>obtain⟨_,_,x⟩:=R;rcases x with⟨x,_⟩ | ⟨x,_⟩ | ⟨x,_⟩<;>omega
 | query e V wh g hv=>
  have ff:cp (.query e V wh g hv)=cp e+cp wh+cp g+cp hv+1:=rfl;have mW:nq (.query e V wh g hv)=nq wh+1:=rfl;rw[mW] at eU hm;have sN:=aj;obtain⟨_,ge,yj,rM,Je,mU,il,al4,jO⟩:=id R;obtain⟨dd,eD,zt,Ie,sh,WQ⟩:=id cv;obtain⟨bU,kH,l1,m1,m2,m3,h1,ev,sv,gv,es,ws,gs,Cc,bQ,-,ak,-,A,cX,cA,AV,hx,dL,jk,jM⟩:=aj;injection bQ with bQ _;injection bQ with bQ;injection bQ with bQ;injection bQ with bQ;subst bQ;obtain⟨nr,re,z1,own,rN,z6⟩:=Jc b1 V I bU ak;have Jh:(ea bd V).length=V.length:=Hy bd V;have hle:bU.length<=1000:=r;obtain⟨⟨p1,p2,fw,pf⟩,rR,sQ,vk⟩:=Ic bi dA er (ym bi dA er (eY wh) wh ap).1 (ym bi dA er (eY hv) hv ap).1 R cv (I.map bO++ea bd V) ag hw
  have cW:ey 111 #[M wb,M b] w fun x w'=>∃gr,x=.returned gr/\FC F wb G bd O false (iJ bd V (iZ (bR bd O wh (I.map bO++ea bd V)) wh) st).1 (iJ bd V (iZ (bR bd O wh (I.map bO++ea bd V)) wh) st).2 w gr w':=by
   refine ak3 (E:=I.map bO) (k:=1000000000000*nq wh) (m:=m) bi w h A (sv:=sv) (wv:=jj ws) rfl rfl (WK cA) Je dd z1 ag (by rw[cZ];omega) hw r (fun s bq a2=>?_) (fun W aF s hk aO bq a2=>?_)
   ·have:=UB (ym bi dA er (eY wh) wh ap).1 mU Ie eD (I.map bO++ea bd V) bq a2;rwa [ax1] at this
   ·refine WL mU (hk.qO h dL) aO (fun w0 amb xv=>?_);subst xv;rw[<-nr] at bq ⊢;exact(aH wh r).1 F wb aF false bU bU.length W _ _ w0 s amb Ie r (fun x=>by rw[eD] at x;cases x) (fun x=>by cases x) (fun _=>rfl) (ke.all ap _) hF (au.jp h hF hk) (hk.qO h dL) aO (WI bq) (fun _=>⟨0,a2,r⟩)
  have gN:∀W aF,aR wb G aF w W->ey 107 #[M b] W fun x w'=>x=.returned (.bool (wD e g hv))/\eB W w':=fun W aF hk=>al3 R (hk.qO h sN);rw[Ia];generalize qc:iJ bd V (iZ (bR bd O wh (I.map bO++ea bd V)) wh) st=dB at *;clear qc;obtain⟨g1,g2,g3⟩:=M7 (e:=e) (g:=g) (h:=hv) rR (Q:=cB (ea bd V)) dB fw;have Aj:ey 69 #[M wb,M b] w fun x w'=>∃gv aF,x=.returned gv/\aM F w' wb aF bd O false (mR e g hv (hL (I.map bO++ea bd V) O g) dB).2/\aR wb G aF w w'/\AH F wb aF w' gv (mR e g hv (hL (I.map bO++ea bd V) O g) dB).1:=by
   rw[g1];unfold mR;cases ig:wD e g hv with
   | false=>rw[if_neg (by simp)];exact alr w r cW (fun W aF _ hk=>by have:=gN W aF hk;rw[ig] at this;exact this)
   | true=>
    rw[if_pos rfl];have ef:gs.length=dH g:=(vf il (.inr (.inl rfl)) jk.is).choose_spec.2.2.2.2.2.2;obtain⟨bf,gc,rfl⟩:=cG AV;cases b8:isNone g with
    | true=>
     rw[if_pos rfl];have aw:gs.length=0:=by
      cases g with
      | nil=>exact ef
      | cons=>cases b8
      | node=>cases b8
      | query=>cases b8
     rw[aw] at A;exact alt w h A rfl cW (fun W aF _ hk=>by have:=gN W aF hk;rw[ig] at this;exact this)
    | false=>
     rw[if_neg (by simp)];have aw:0<gs.length:=by
      rw[ef];cases g with
      | nil=>cases b8
      | cons=>simp[dH]
      | node=>exact absurd (qI il (.inr (.inl rfl))) (by simp[lx])
      | query=>exact absurd (qI il (.inr (.inl rfl))) (by simp[lx])
     refine alu w h A rfl aw cW (fun W aF _ hk=>by have:=gN W aF hk;rw[ig] at this;exact this) (fun W aF gr vs aO hk an kk=>?_);have mI:=p1.len;rw[cZ] at mI;refine ak9 _ gr (hL (I.map bO++ea bd V) O g) vs dB.2 W aO hF (au.jp h hF hk) an kk r (fun c ai=>?_) rR (fun c ai=>?_) (fun c ai h5 gM dR Hb=>?_)
     ·rw[(fw c ai).len,Jh];omega
     ·obtain⟨v1,v2,_⟩:=Ma (I.map bO++ea bd V) (I.map bO++ea bd V) O dA er g {dB.1 with ad:=dB.1.ad++c} (O8 il) (p1.app (fw c ai)) (fun x=>by rw[O9 il] at x;cases x);exact⟨v1,bX (Nat.le_of_eq v2) r⟩
     ·have gi:=hk.trans X dR;have amc:cB (bU.map bO) ({dB.1 with ad:=dB.1.ad++c}:az).ad:=by rw[nr];exact p1.app (fw c ai)
      have:=WM (L:=bU.length) dA er hle (O8 il) (ke.all ap _) (fun x=>by rw[O9 il] at x;cases x) r (gi.qO h jk) (ei bu (gi.l3 h K K AV)) Hb (WI amc);rw[nr,rR] at this;exact this
  have jZ:cB (I.map bO) (mR e g hv (hL (I.map bO++ea bd V) O g) dB).2.ad:=by rw[g1];exact p1
  refine alL (E:=I.map bO) (D:=ea bd V) w h A (ev:=ev) (hv:=jj Cc) rfl rfl Aj r jZ (by rw[cZ,Jh];omega) (fun aG amd=>?_);obtain⟨h0,gR,lA⟩:=g2 aG amd;have WR:1<=(ea bd V).length:=r;refine⟨gR,r,fun s bq a2=>?_,fun s bq a2=>?_,fun F' W aF s rY hk aO bq a2=>?_,fun F' W aF s rY hk aO bq a2=>?_⟩
  ·have:=sQ _ s bq (by rw[a2];exact H6 gR r);exact⟨this.ad,this.bF.trans a2⟩
  ·have:=(vk _ s bq (by rw[a2];exact H6 gR r)).1;exact⟨this.ad,this.bF.trans a2⟩
  ·refine WL jO (hk.qO h jM) aO (fun w0 FP xv=>?_);subst xv;rw[<-nr];exact(aH hv r).1 F' wb aF true bU _ W _ _ w0 s FP sh (by
    have:nq hv=0:=al9 FP zt;omega) (fun _=>rfl) (fun _=>zt) (fun x=>by rw[zt] at x;cases x) (WP nr rN z6 Je (fun x=>(WQ (lA x).1 (lA x).2).2)) (rY _ hF) (au.jp h hF hk) (hk.qO h jM) aO (WO nr bq a2 gR r WR) (fun x=>by rw[zt] at x;cases x)
  ·rw[<-nr];exact WM dA er hle ge (WP nr rN z6 Je (fun x=>(WQ (lA x).1 (lA x).2).1)) (fun _=>rfl) rM (hk.qO h hx) (ei bu (hk.l3 h K K cX)) aO (WO nr bq a2 gR r WR)
def ame(bi:nW bd)(b1:oJ td bd)(dA : -1000000000000<=O)(er:O<=1000000000000):∀(n:Nat) (t:aL),cp t<=n->Jf td bd O t/\Jg td bd O t:=by
 intro n;induction n with
 | zero=>
  intro t hs;refine⟨fun F wb G ao I L w lo hi b st R=>?_,fun F wb G I w lo hi b st m R=>?_⟩
  ·rcases Ca R with⟨_,_,_,_,_,_,rfl,_⟩ | ⟨_,_,_,_,rfl,_⟩ | ⟨_,_,_,_,_,_,rfl,_⟩ | ⟨_,_,_,_,rfl,_⟩ | ⟨_,_,_,_,rfl,_⟩<;>simp[cp] at hs
  ·cases t with
   | query=>simp[cp] at hs
   | nil=>simp[aJ] at R
   | cons=>simp[aJ] at R
   | node=>simp[cp] at hs
 | succ n aH=>exact fun t hs=>⟨al7 bi dA er aH t hs,ama bi b1 dA er aH t hs⟩
