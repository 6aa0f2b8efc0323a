import Derived.Test.YtjebdgbpopolkaaGreatDoorM028
import Derived.Test.YtjebdgbpopolkaaGreatDoorM029
set_option maxHeartbeats 0
set_option maxRecDepth 100000
set_option linter.all false
namespace Go.Proofs.YtjebdgbpopolkaaGreatDoor
open Tryz
open Go.RowKit
open bS
variable{W w w':World}{F:Nat->Prop}{aB gD k lo n aW size wb:Nat}{G aF:Option Nat}{B:List bG}{O:Int}{ao:Bool}{st fZ st2:az}{ok vo:az->Prop}{e:TypeId}{v wv:Value}{xs:List Value}{cs:Array Value}{aP:ez}
def li(F:Nat->Prop)(wb:Nat)(G:Option Nat)(B:List bG)(O:Int)(ao:Bool)(v:Int)(st:az)(w:World)(e:Ending)(w':World):Prop:=e=.returned (q v)/\∃aF,aM F w' wb aF B O ao st/\aR wb G aF w w'
def yD(F:Nat->Prop)(wb:Nat)(yE:Option Nat)(B:List bG)(O:Int)(ao:Bool)(ok:az->Prop)(w:World)(x:Value)(f:az->Int×az):Prop:=∀(w':World) (G:Option Nat) (st:az),aR wb yE G w w'->aM F w' wb G B O ao st->ok st->ey 115 #[M wb,x] w' (li F wb G B O ao (f st).1 (f st).2 w')
def yF(fn:Nat)(F:Nat->Prop)(wb:Nat)(G:Option Nat)(B:List bG)(O:Int)(ao:Bool)(w:World)(b:Nat)(st:az)(v:Int)(st2:az):Prop:=∀W,aR wb G G w W->aM F W wb G B O ao st->ey fn #[M wb,M b] W (li F wb G B O ao v st2 W)
def VQ{co dN:Value}(h:eK w co [dN]):∃dY pc,co=.slice (some ⟨dY,0,none⟩) 1 pc/\dp w dY 0=some dN:=by obtain⟨g,af,e,bk⟩:=h.cell 0 (by simp);exact⟨g,af,e,bk⟩
def yG{ops:Array Oper}{Q:Exit->Act->World->Prop}{a:Act}{jH k2 rk:Oper}(h:∀cm:List Oper,cm=[rk]->wpList prog ops Q (jH::k2::cm) a w):wpList prog ops Q [jH,k2,rk] a w:=h _ rfl
def jc:Array Value:=#[.nilFunc,.nilFunc,.nilFunc,.nilFunc,.nilFunc,.nilFunc,.nilFunc,.nilFunc,.nilFunc,.nilFunc,.nilFunc,.nilFunc,.func (.func 166) #[] #[],.func (.func 167) #[] #[],.func (.func 168) #[] #[],.func (.func 169) #[] #[],.func (.func 170) #[] #[],.func (.func 171) #[] #[],.func (.func 172) #[] #[],.func (.func 173) #[] #[]]
def w2(w:World):(w.alloc (.cells yT 259)).there w.heap.size 0 jc.size:=fun j aS=>by
 have A:=bH w (.cells yT 259);have yY:j<20:=aS;rw[ax1];constructor
 ·have:(yT:Array Value)[j]?=some .nilFunc:=by
   match j,yY with
   | 0,_ | 1,_ | 2,_ | 3,_ | 4,_ | 5,_ | 6,_ | 7,_ | 8,_ | 9,_ | 10,_ | 11,_ | 12,_ | 13,_ | 14,_ | 15,_ | 16,_ | 17,_ | 18,_ | 19,_=>rfl
   | n+20,ar=>exact absurd ar r
  exact congrArg Option.isSome (Z A this)
 ·exact aQ A
def yH:(prog.info? 259).map (·.size)=some jc.size:=ax
def yI:(jc.all fun x=>x.oneCell')=true:=by simp[jc,Value.oneCell']
def yJ(w:World)(k:Nat)(v:Value)(h:jc.toList[k]?=some v):((w.alloc (.cells yT 259)).setCells w.heap.size 0 jc.toList).cell? ⟨w.heap.size,k,none⟩=some v:=by have:=World.rangeAt_setCells_same (w.alloc (.cells yT 259)) w.heap.size 0 jc.toList (w2 w) k v h;rwa [ax1] at this
def w3(fI:World):∀(vs:List Value) (o:Nat) (w:World),Below fI.heap.size fI w->Below fI.heap.size fI (w.setCells fI.heap.size o vs)
 | [],_,_,h=>h
 | v::C,o,w,h=>w3 fI C (o+1) (w.setCell ⟨fI.heap.size,o,none⟩ v) (h.setCell (by exact ap) _)
def aj9(n fn:Nat)(k:Int)(av:n=12/\k=12/\fn=166\/n=13/\k=13/\fn=167\/n=14/\k=14/\fn=168\/n=15/\k=15/\fn=169\/n=16/\k=16/\fn=170\/n=17/\k=17/\fn=171\/n=18/\k=18/\fn=172\/n=19/\k=19/\fn=173)(b:Nat)(v:Int)(w:World)(h:aM F w wb G B O ao st)(hk:dp w b 0=some (q k))(bc:b<w.heap.size)(b4:yF fn F wb G B O ao w b st v st2):ey 115 #[M wb,M b] w (li F wb G B O ao v st2 w):=by
 have eX:∀args w,(callFunc fn args).run prog w=.ok (.enter fn args) w:=by
  rcases av with⟨rfl,rfl,rfl⟩ | ⟨rfl,rfl,rfl⟩ | ⟨rfl,rfl,rfl⟩ | ⟨rfl,rfl,rfl⟩ | ⟨rfl,rfl,rfl⟩ | ⟨rfl,rfl,rfl⟩ | ⟨rfl,rfl,rfl⟩ | ⟨rfl,rfl,rfl⟩
  ·exact enters_of func166 ax rfl
  ·exact enters_of func167 ax rfl
  ·exact enters_of func168 ax rfl
  ·exact enters_of func169 ax rfl
  ·exact enters_of func170 ax rfl
  ·exact enters_of func171 ax rfl
  ·exact enters_of func172 ax rfl
  ·exact enters_of func173 ax rfl
 have X:=h.lt;have aN:Hid (∀W,Below w.heap.size w W->ey fn #[M wb,M b] W fun e J=>e=.returned (q v)/\∃aF,aM F J wb aF B O ao st2/\aR wb G aF w J):=u (fun W A=>(b4 W (aR.of A) (h.below A)).mono fun e J aj=>by
  obtain⟨h1,aF,H,ab⟩:=aj;exact⟨h1,aF,H,(aR.of A).trans X ab⟩)
 have bw:=w3 w jc.toList 0 (w.alloc (.cells yT 259)) cT;have iV:=yJ w n (.func (.func fn) #[] #[]) (by rcases av with⟨rfl,rfl,rfl⟩ | ⟨rfl,rfl,rfl⟩ | ⟨rfl,rfl,rfl⟩ | ⟨rfl,rfl,rfl⟩ | ⟨rfl,rfl,rfl⟩ | ⟨rfl,rfl,rfl⟩ | ⟨rfl,rfl,rfl⟩ | ⟨rfl,rfl,rfl⟩<;>rfl);have pF:=dr bw hk bc;have dT:=u bw;clear b4 h bw;rcases av with⟨rfl,rfl,-⟩ | ⟨rfl,rfl,-⟩ | ⟨rfl,rfl,-⟩ | ⟨rfl,rfl,-⟩ | ⟨rfl,rfl,-⟩ | ⟨rfl,rfl,-⟩ | ⟨rfl,rfl,-⟩ | ⟨rfl,rfl,-⟩
 all_goals
  go_enter func115,ntmps115;go_upto_region 1 with fail;refine wp_region_list ?_;refine yG ?_;intro cm b1;go_wp2_with fail;subst b1;refine wpList_store_mid rfl 259 (.tmp 5) (.tmp 6) rfl w.heap.size 0 jc rfl rfl (w2 w) yH yI ?_;refine wpList_nil ?_;generalize (w.alloc (.cells yT 259)).setCells w.heap.size 0 jc.toList=ih at *;generalize w.heap.size=aB at *;go_wp2_with (go_at_fn fn;refine(aN.d _ dT.d).mono ?_;rintro e J ⟨rfl,kJ⟩);go_ret;exact⟨rfl,kJ⟩
def akh(b:Nat)(co dN bz:Value)(cs:Array Value)(f0 f1:az->Int×az)(w:World)(h:aM F w wb G B O ao st)(gK:ok st)(uk:vo (f0 st).2)(A:w.heap[b]?=some (.cells cs 247 (0,0)))(cE:cs[6]?=some co)(an:eK w co [dN,bz])(kN:yD F wb G B O ao ok w dN f0)(H1:yD F wb G B O ao vo w bz f1):ey 166 #[M wb,M b] w (li F wb G B O ao (min (f0 st).1 (f1 (f0 st).2).1) (f1 (f0 st).2).2 w):=by
 obtain⟨dY,pc,rfl,p0,p1,pl⟩:=yp an;have X:=h.lt;have jy:=Z A cE;have na:Hid (ey 115 #[M wb,dN] w.drew fun e J=>e=.returned (q (f0 st).1)/\dp J b 6=some (.slice (some ⟨dY,0,none⟩) 2 pc)/\dp J dY 0=some dN/\dp J dY 1=some bz/\Hid (ey 115 #[M wb,bz] J fun am S=>am=.returned (q (f1 (f0 st).2).1)/\dp S b 6=some (.slice (some ⟨dY,0,none⟩) 2 pc)/\dp S dY 0=some dN/\dp S dY 1=some bz/\Hid (∃aF,aM F S wb aF B O ao (f1 (f0 st).2).2/\aR wb G aF w S))):=u ((kN w.drew G st (aR.refl wb G w).drew h.drew gK).mono fun e J aj=>by
  obtain⟨h1,cP,fJ,y5⟩:=aj;have bZ:aR wb G cP w J:=(aR.refl wb G w).drew.trans X y5;have cells:∀(aF:Option Nat) (w':World),aR wb G aF w w'->dp w' b 6=some (.slice (some ⟨dY,0,none⟩) 2 pc)/\dp w' dY 0=some dN/\dp w' dY 1=some bz:=fun aF w' hk=>by have ag:=hk.l3 h K K an;obtain⟨Nu,Nv,e,k6,q1,_⟩:=yp ag;injection e with Y am bm;injection Y with Y;injection Y with Y;subst Y;exact⟨Z (hk.gg h K K A) cE,k6,q1⟩
  obtain⟨h0,gR,lA⟩:=cells _ _ bZ;refine⟨h1,h0,gR,lA,u ((H1 J cP _ bZ fJ uk).mono fun am S go=>?_)⟩;obtain⟨g1,gM,lB,dR⟩:=go;have hk:=bZ.trans X dR;obtain⟨b3,z2,z3⟩:=cells _ _ hk;exact⟨g1,b3,z2,z3,u ⟨gM,lB,hk⟩⟩)
 clear kN H1 an h A gK uk;generalize f1 (f0 st).2=lO at *;generalize f0 st=ul at *;obtain⟨t1,st1⟩:=lO;obtain⟨t0,fZ⟩:=ul;simp only[] at na ⊢;go_enter func166,ntmps166;go_upto_region 1 with fail;go_region_held3 (fun w'=>w'.cell? ⟨b,6,none⟩=some (.slice (some ⟨dY,0,none⟩) 2 pc)/\w'.cell? ⟨dY,0,none⟩=some dN/\w'.cell? ⟨dY,1,none⟩=some bz) (go_keep) (first
  | (go_at_call 240;refine(afw _ _ _).mono ?_;rintro e uZ ⟨rfl,rfl⟩)
  | (go_at_call 115;refine gQ.d.mono ?_;rintro e S ⟨rfl,t1,t2,t3,lm⟩)
  | (go_at_call 115;refine na.d.mono ?_;rintro e J ⟨rfl,cX,cA,AV,gQ⟩))
 all_goals
  go_wp2_with fail;go_ret;exact⟨rfl,lm.d⟩
def aki(b:Nat)(co dN bz:Value)(cs:Array Value)(f0 f1:az->Int×az)(w:World)(h:aM F w wb G B O ao st)(gK:ok st)(uk:vo (f0 st).2)(A:w.heap[b]?=some (.cells cs 247 (0,0)))(cE:cs[6]?=some co)(an:eK w co [dN,bz])(kN:yD F wb G B O ao ok w dN f0)(H1:yD F wb G B O ao vo w bz f1):ey 167 #[M wb,M b] w (li F wb G B O ao (max (f0 st).1 (f1 (f0 st).2).1) (f1 (f0 st).2).2 w):=by
 obtain⟨dY,pc,rfl,p0,p1,pl⟩:=yp an;have X:=h.lt;have jy:=Z A cE;have na:Hid (ey 115 #[M wb,dN] w.drew fun e J=>e=.returned (q (f0 st).1)/\dp J b 6=some (.slice (some ⟨dY,0,none⟩) 2 pc)/\dp J dY 0=some dN/\dp J dY 1=some bz/\Hid (ey 115 #[M wb,bz] J fun am S=>am=.returned (q (f1 (f0 st).2).1)/\dp S b 6=some (.slice (some ⟨dY,0,none⟩) 2 pc)/\dp S dY 0=some dN/\dp S dY 1=some bz/\Hid (∃aF,aM F S wb aF B O ao (f1 (f0 st).2).2/\aR wb G aF w S))):=u ((kN w.drew G st (aR.refl wb G w).drew h.drew gK).mono fun e J aj=>by
  obtain⟨h1,cP,fJ,y5⟩:=aj;have bZ:aR wb G cP w J:=(aR.refl wb G w).drew.trans X y5;have cells:∀(aF:Option Nat) (w':World),aR wb G aF w w'->dp w' b 6=some (.slice (some ⟨dY,0,none⟩) 2 pc)/\dp w' dY 0=some dN/\dp w' dY 1=some bz:=fun aF w' hk=>by have ag:=hk.l3 h K K an;obtain⟨Nu,Nv,e,k6,q1,_⟩:=yp ag;injection e with Y am bm;injection Y with Y;injection Y with Y;subst Y;exact⟨Z (hk.gg h K K A) cE,k6,q1⟩
  obtain⟨h0,gR,lA⟩:=cells _ _ bZ;refine⟨h1,h0,gR,lA,u ((H1 J cP _ bZ fJ uk).mono fun am S go=>?_)⟩;obtain⟨g1,gM,lB,dR⟩:=go;have hk:=bZ.trans X dR;obtain⟨b3,z2,z3⟩:=cells _ _ hk;exact⟨g1,b3,z2,z3,u ⟨gM,lB,hk⟩⟩)
 clear kN H1 an h A gK uk;generalize f1 (f0 st).2=lO at *;generalize f0 st=ul at *;obtain⟨t1,st1⟩:=lO;obtain⟨t0,fZ⟩:=ul;simp only[] at na ⊢;go_enter func167,ntmps167;go_upto_region 1 with fail;go_region_held3 (fun w'=>w'.cell? ⟨b,6,none⟩=some (.slice (some ⟨dY,0,none⟩) 2 pc)/\w'.cell? ⟨dY,0,none⟩=some dN/\w'.cell? ⟨dY,1,none⟩=some bz) (go_keep) (first
  | (go_at_call 241;refine(afx _ _ _).mono ?_;rintro e uZ ⟨rfl,rfl⟩)
  | (go_at_call 115;refine gQ.d.mono ?_;rintro e S ⟨rfl,t1,t2,t3,lm⟩)
  | (go_at_call 115;refine na.d.mono ?_;rintro e J ⟨rfl,cX,cA,AV,gQ⟩))
 all_goals
  go_wp2_with fail;go_ret;exact⟨rfl,lm.d⟩
def akj(b:Nat)(co dN:Value)(cs:Array Value)(f0:az->Int×az)(w:World)(h:aM F w wb G B O ao st)(gK:ok st)(aw:0<=(f0 st).1)(H:(f0 st).1<=2)(A:w.heap[b]?=some (.cells cs 247 (0,0)))(cE:cs[6]?=some co)(an:eK w co [dN])(kN:yD F wb G B O ao ok w dN f0):ey 168 #[M wb,M b] w (li F wb G B O ao (2-(f0 st).1) (f0 st).2 w):=by
 obtain⟨dY,pc,rfl,p0⟩:=VQ an;have jy:=Z A cE;have aN:=u (kN w G st (aR.refl wb G w) h gK);clear kN an h A gK;generalize f0 st=ul at *;obtain⟨t0,fZ⟩:=ul;simp only[] at aN aw H ⊢;unfold li at aN;go_enter func168,ntmps168;go_wp2_with (first | (go_at_call 242;refine(afv _ aw H _).mono ?_;rintro e uZ ⟨rfl,rfl⟩) | (go_at_call 115;refine aN.d.mono ?_;rintro e J ⟨rfl,aj⟩));go_ret;exact⟨rfl,aj⟩
def akk(b:Nat)(co dN:Value)(cs:Array Value)(f0:az->al×az)(w:World)(h:aM F w wb G B O ao st)(gK:ok st)(A:w.heap[b]?=some (.cells cs 247 (0,0)))(cE:cs[6]?=some co)(an:eK w co [dN])(kN:p5 F wb G B O ao ok w dN f0):ey 173 #[M wb,M b] w (li F wb G B O ao (rC (decide ((f0 st).1.kind=0))) (f0 st).2 w):=by
 obtain⟨dY,pc,rfl,p0⟩:=VQ an;have jy:=Z A cE;have aN:=u (kN w st (aR.refl wb G w) h gK);clear kN an h A gK;generalize f0 st=ul at *;obtain⟨⟨gm,ji,nc⟩,fZ⟩:=ul;simp only[] at aN ⊢;unfold cb at aN;simp only[] at aN;have vq:((gm:Int)==0)=decide (gm=0):=by
  by_cases x:gm=0
  ·subst x;rfl
  ·rw[ax2 x,cV];omega
 have dy:Hid (rC (decide (gm=0))=BQ (decide (gm=0))):=u (by unfold rC BQ;rfl);rw[dy.d];clear dy;generalize a7 nc=k5 at *;generalize decide (gm=0)=bB at *;have asR:∀w:World,(Instr.field 112 (.agg #[q (gm:Int),q ji,.string k5]) 0).run prog w=.ok (q (gm:Int)) w:=fun _=>ax;go_enter func173,ntmps173;go_wp2_with (first | (go_at_call 243;refine(Mf _ _).mono ?_;rintro e uZ ⟨rfl,rfl⟩) | (go_at_call 116;refine aN.d.mono ?_;rintro e J ⟨rfl,dl,hk⟩));go_ret;exact⟨rfl,G,dl,hk⟩
def akl(b:Nat)(aC ci:al)(w:World)(h:aM F w wb G B O ao st)(bn:ey 244 #[M wb,M b] w (gO F wb G B O ao (.tuple #[q (nX aC ci),.bool (decide (aC.kind≠0)&&decide (ci.kind≠0))]) st2 w)):ey 170 #[M wb,M b] w (li F wb G B O ao (pP 16 aC ci) st2 w):=by
 have Y:(decide (aC.kind≠0)&&decide (ci.kind≠0)) = !decide (aC.kind=0\/ci.kind=0):=by by_cases x:aC.kind=0<;>by_cases y:ci.kind=0<;>simp[x,y]
 have bK:Hid (pP 16 aC ci=zS (!decide (aC.kind=0\/ci.kind=0)) (decide (nX aC ci=0))):=u (by
  unfold pP zS;by_cases aY:aC.kind=0\/ci.kind=0
  ·rw[if_pos aY,ax3 aY];rfl
  ·rw[if_neg aY,ax2 aY,E9];simp only[Bool.not_false,if_true];rfl)
 rw[bK.d];rw[Y] at bn;have aN:=u bn;clear bn bK Y h;generalize (!decide (aC.kind=0\/ci.kind=0))=VR at *;generalize nX aC ci=eF at *;go_enter func170,ntmps170;go_wp2_with (first | (go_at_call 245;refine(Mg _ _ _).mono ?_;rintro e uZ ⟨rfl,rfl⟩) | (go_at_call 244;refine aN.d.mono ?_;rintro e J ⟨rfl,dl,hk⟩));go_ret;exact⟨by first | rfl | simp,G,dl,hk⟩
def akm(b:Nat)(aC ci:al)(w:World)(h:aM F w wb G B O ao st)(bn:ey 244 #[M wb,M b] w (gO F wb G B O ao (.tuple #[q (nX aC ci),.bool (decide (aC.kind≠0)&&decide (ci.kind≠0))]) st2 w)):ey 171 #[M wb,M b] w (li F wb G B O ao (pP 17 aC ci) st2 w):=by
 have Y:(decide (aC.kind≠0)&&decide (ci.kind≠0)) = !decide (aC.kind=0\/ci.kind=0):=by by_cases x:aC.kind=0<;>by_cases y:ci.kind=0<;>simp[x,y]
 have bK:Hid (pP 17 aC ci=zS (!decide (aC.kind=0\/ci.kind=0)) (decide (nX aC ci<0))):=u (by
  unfold pP zS;by_cases aY:aC.kind=0\/ci.kind=0
  ·rw[if_pos aY,ax3 aY];rfl
  ·rw[if_neg aY,ax2 aY,E9];simp only[Bool.not_false,if_true];rfl)
 rw[bK.d];rw[Y] at bn;have aN:=u bn;clear bn bK Y h;generalize (!decide (aC.kind=0\/ci.kind=0))=VR at *;generalize nX aC ci=eF at *;go_enter func171,ntmps171;go_wp2_with (first | (go_at_call 245;refine(Mg _ _ _).mono ?_;rintro e uZ ⟨rfl,rfl⟩) | (go_at_call 244;refine aN.d.mono ?_;rintro e J ⟨rfl,dl,hk⟩));go_ret;exact⟨by first | rfl | simp,G,dl,hk⟩
def akn(b:Nat)(aC ci:al)(w:World)(h:aM F w wb G B O ao st)(bn:ey 244 #[M wb,M b] w (gO F wb G B O ao (.tuple #[q (nX aC ci),.bool (decide (aC.kind≠0)&&decide (ci.kind≠0))]) st2 w)):ey 172 #[M wb,M b] w (li F wb G B O ao (pP 18 aC ci) st2 w):=by
 have Y:(decide (aC.kind≠0)&&decide (ci.kind≠0)) = !decide (aC.kind=0\/ci.kind=0):=by by_cases x:aC.kind=0<;>by_cases y:ci.kind=0<;>simp[x,y]
 have bK:Hid (pP 18 aC ci=zS (!decide (aC.kind=0\/ci.kind=0)) (decide (0<nX aC ci))):=u (by
  unfold pP zS;by_cases aY:aC.kind=0\/ci.kind=0
  ·rw[if_pos aY,ax3 aY];rfl
  ·rw[if_neg aY,ax2 aY,E9];simp only[Bool.not_false,if_true];rfl)
 rw[bK.d];rw[Y] at bn;have aN:=u bn;clear bn bK Y h;generalize (!decide (aC.kind=0\/ci.kind=0))=VR at *;generalize nX aC ci=eF at *;go_enter func172,ntmps172;go_wp2_with (first | (go_at_call 245;refine(Mg _ _ _).mono ?_;rintro e uZ ⟨rfl,rfl⟩) | (go_at_call 244;refine aN.d.mono ?_;rintro e J ⟨rfl,dl,hk⟩));go_ret;exact⟨by first | rfl | simp,G,dl,hk⟩
def Cq(F:Nat->Prop)(wb:Nat)(G:Option Nat)(B:List bG)(O:Int)(ao:Bool)(b:Bool)(st:az)(w:World)(e:Ending)(w':World):Prop:=e=.returned (.bool b)/\∃aF,aM F w' wb aF B O ao st/\aR wb G aF w w'
def ako(w:World)(h:aM F w wb G B O ao st):ey 72 #[M wb,.pointer none] w (Cq F wb G B O ao true st w):=by have cx:=u h;clear h;go_enter func72,ntmps72;go_wp2_with fail;go_ret;exact⟨rfl,G,cx.d,aR.refl _ _ _⟩
def akp{b:Nat}(v:Int)(w:World)(aN:ey 115 #[M wb,M b] w (li F wb G B O ao v st w)):ey 72 #[M wb,M b] w (Cq F wb G B O ao (decide (v=2)) st w):=by have cx:=u aN;clear aN;unfold li at cx;go_enter func72,ntmps72;go_wp2_with (go_at_call 115;refine cx.d.mono ?_;rintro e J ⟨rfl,aj⟩);go_ret;exact⟨by first | rfl | simp,aj⟩
def fV(F:Nat->Prop)(wb:Nat)(G:Option Nat)(w:World):List Value->ez->Prop
 | [],[]=>True
 | v::C,c::s=>(∃rs,eg (jS wb G) w 115 2 v c.length (cQ rs)/\dk F w rs c)/\fV F wb G w C s
 | _,_=>False
def fV.len{F:Nat->Prop}{wb:Nat}{G:Option Nat}{w:World}:∀{vs:List Value} {l:ez},fV F wb G w vs l->vs.length=l.length
 | [],[],_=>rfl
 | _::_,_::_,h=>by rw[di,di,fV.len h.2]
 | [],_::_,h=>h.elim
 | _::_,[],h=>h.elim
def fV.move{F:Nat->Prop}{wb:Nat}{G aF:Option Nat}{w w':World}(m:dj (jS wb G) (jS wb aF) w w')(m2:dj F F w w'):∀{vs:List Value} {l:ez},fV F wb G w vs l->fV F wb aF w' vs l
 | [],[],_=>trivial
 | _::_,_::_,h=>⟨by obtain⟨rs,h1,H⟩:=h.1;exact⟨rs,h1.move m,H.move m2⟩,fV.move m m2 h.2⟩
 | [],_::_,h=>h.elim
 | _::_,[],h=>h.elim
def fV.snoc{F:Nat->Prop}{wb:Nat}{G:Option Nat}{w:World}{v:Value}{c:je}(h1:∃rs,eg (jS wb G) w 115 2 v c.length (cQ rs)/\dk F w rs c):∀{vs:List Value} {l:ez},fV F wb G w vs l->fV F wb G w (vs++[v]) (l++[c])
 | [],[],_=>⟨h1,trivial⟩
 | _::_,_::_,h=>⟨h.1,fV.snoc h1 h.2⟩
 | [],_::_,h=>h.elim
 | _::_,[],h=>h.elim
structure qb (F:Nat->Prop) (wb aW aB gD n:Nat) (G:Option Nat) (B:List bG) (O:Int) (ao:Bool) (w:World) (aF:Option Nat) (st:az) (aP:ez) (W:World):Prop where
 at_:aM F W wb aF B O ao st
 jp:aR wb G aF w W
 hr:W.heap[aB]?=some (.cells #[M wb] 153 (0,0))
 cN:W.heap[aB+1]?=some (.cells #[M aW] 54 (0,0))
 fS:W.heap[gD+1]?=some (.cells #[q (n:Int)] 3 (0,0))
 bL:∃ka gH vs,W.heap[gD]?=some (.cells #[.slice ka vs.length gH] 93 (0,0))/\W.ownsRow aB 92 1 (.slice ka vs.length gH) vs.length vs/\fV F wb aF W vs aP
def qb.n3{F:Nat->Prop}{wb aW aB gD n:Nat}{G:Option Nat}{B:List bG}{O:Int}{ao:Bool}{w:World}{aF w4:Option Nat}{st hQ:az}{aP:ez}{W aU:World}(X:wb<w.heap.size)(h:qb F wb aW aB gD n G B O ao w aF st aP W)(hk:aR wb aF w4 W aU)(aO:aM F aU wb w4 B O ao hQ):qb F wb aW aB gD n G B O ao w w4 hQ aP aU:=by obtain⟨ka,gH,vs,h1,H,ab⟩:=h.bL;exact⟨aO,h.jp.trans X hk,hk.gg h.at_ K K h.hr,hk.gg h.at_ K K h.cN,hk.gg h.at_ K K h.fS,ka,gH,vs,hk.gg h.at_ K K h1,hk.l3 h.at_ K K H,ab.move hk.n3 (hk.p4 h.at_.own)⟩
def VS:(prog.info? 92).map (fun i=>(i.zero,i.size,i.bytes))=some (some (.slice none 0 0),1,24):=ax
def ph(h:w.ownsRow lo e size v n xs)(A:∀k,v.ownBlock=some k->w'.heap[k]?=w.heap[k]?):w'.ownsRow lo e size v n xs:=by
 refine⟨h.1,?_⟩;rcases h.2 with ar | ⟨g,af,ay,rfl,q1,bN,rest⟩
 ·exact .inl ar
 ·exact .inr ⟨g,af,ay,rfl,q1,(A g rfl).trans bN,rest⟩
def hD(h:w.ownsRow lo e size v n xs)(A:v.ownBlock=some k):lo<=k/\∃cs,w.heap[k]?=some (.cells cs e (0,0)):=by
 rcases h.2 with⟨rfl,_⟩ | ⟨g,af,ay,rfl,q1,bN,rest⟩
 ·simp[Value.ownBlock] at A
 ·obtain rfl:g=k:=by simpa [Value.ownBlock] using A
  exact⟨q1,ay,bN⟩
def oH{jY:Nat}{fU:Array Value}{t ne:TypeId}{m pQ:Nat×Nat}(h:w.heap[k]?=some (.cells cs t m))(cC:w.heap[jY]?=some (.cells fU ne pQ))(cy:t≠ne):k≠jY:=by rintro rfl;rw[h] at cC;injection cC with cC;injection cC with _ cC;exact cy cC
def dk.a8(m:∀k,F k->w'.heap[k]?=w.heap[k]?){rs:List (Nat×Value)}{l:je}(h:dk F w rs l):dk F w' rs l:=h.move (fun k _ av=>⟨av,m k av⟩)
def fV.a8{F:Nat->Prop}{wb:Nat}{G:Option Nat}{w w':World}(m:∀(k:Nat) (cs:Array Value),w.heap[k]?=some (.cells cs 115 (0,0))->w'.heap[k]?=w.heap[k]?)(m2:∀k,F k->w'.heap[k]?=w.heap[k]?):∀{vs:List Value} {l:ez},fV F wb G w vs l->fV F wb G w' vs l
 | [],[],_=>trivial
 | _::_,_::_,h=>⟨by
  obtain⟨rs,h1,H⟩:=h.1;exact⟨rs,⟨ph h1.1 (fun k hk=>by obtain⟨_,cs,e⟩:=hD h1.1 hk;exact m k cs e),h1.2⟩,H.a8 m2⟩,fV.a8 m m2 h.2⟩
 | [],_::_,h=>h.elim
 | _::_,[],h=>h.elim
def aM.stay(h:aM F w wb G B O ao st)(hs:w.heap.size<=w'.heap.size)(hF:∀k,F k->w'.heap[k]?=w.heap[k]?)(tj:w'.heap[wb]?=w.heap[wb]?)(dh:∀g,G=some g->w'.heap[g]?=w.heap[g]?):aM F w' wb G B O ao st:=by obtain⟨aE,b0,bf,cl,gc,rs,aI,aZ,a6,dt,e8,i8⟩:=h.at_;have m:dj F F w w':=fun k _ av=>⟨av,hF k av⟩;exact⟨fun k hk=>e0 (h.fH k hk) hs,h.own,aE,b0,bf,cl,gc,rs,tj.trans aI,aZ.move m,ph a6 (fun k hk=>dh k (by rw[<-dt];exact hk)),dt,e8.move m,fun e=>(i8 e).move m⟩
def qb.push(aw:aM F w wb G B O ao fZ)(cr:aB=w.heap.size)(jL:aB+2<=gD)(h:qb F wb aW aB gD n G B O ao w aF st aP W)(dI:aP.length<=100000){aC:Option Addr}{fj:Nat}{c:je}(ai:∃rs,eg (jS wb aF) W 115 2 (.slice aC c.length fj) c.length (cQ rs)/\dk F W rs c):∃ka fX gH hl e2 iL cw,dp W gD 0=some (.slice ka fX gH)/\gD<W.heap.size/\(∀ty,(Builtin.append_ #[93,93] ty #[.slice ka fX gH,.slice (some ⟨W.heap.size,0,none⟩) 1 1]).run prog (W.alloc (.cells #[.slice aC c.length fj] 92))=.ok (.slice hl e2 iL) cw)/\(∃x,dp cw gD 0=some x)/\cw.frozen? ⟨gD,0,none⟩=false/\qb F wb aW aB gD n G B O ao w aF st (aP++[c]) (cw.setCell ⟨gD,0,none⟩ (.slice hl e2 iL)):=by
 obtain⟨ka,gH,vs,h1,H,ab⟩:=h.bL;have uc:=ab.len;have qG:aB<=W.heap.size:=by rw[cr];exact h.jp.size
 obtain⟨v6,cw,akq,Cr,rt,asS⟩:=ug underlying93 VS rfl K K H #[.slice aC c.length fj] rfl (by simp[Value.oneCell']) r qG;obtain⟨hl,iL,rfl⟩:=cG Cr;have Cs:=(Below.refl W.heap.size W).alloc ap (.cells #[.slice aC c.length fj] 92);have akr:=(br h1).1;have key:∀(k:Nat),k<W.heap.size->(Value.slice ka vs.length gH).ownBlock≠some k->cw.heap[k]?=W.heap[k]?:=fun k hk cy=>(rt.block k (e0 hk Cs.size) (fun e=>cy e.symm)).trans (Cs.block k hk);have w5:∀(k:Nat) (cs:Array Value) (t:TypeId) (m:Nat×Nat),t≠92->W.heap[k]?=some (.cells cs t m)->cw.heap[k]?=W.heap[k]?:=fun k cs t m au e=>key k (br e).1 (fun pU=>by
  obtain⟨_,fU,bo⟩:=hD H pU;exact oH e bo au rfl)
 have IU:∀k,k<aB->cw.heap[k]?=W.heap[k]?:=fun k hk=>key k r (fun pU=>by have:=(hD H pU).1;omega);have vw:∀k,k≠gD->(cw.setCell ⟨gD,0,none⟩ (.slice hl (vs.length+1) iL)).heap[k]?=cw.heap[k]?:=fun k hk=>Below.heap_setCell _ _ _ k (by exact hk);have IV:=(w5 gD _ _ _ K h1).trans h1;have Ct:∀k,F k->k<aB:=fun k av=>by rw[cr];exact aw.fH k av
 have Fs:wb<aB:=by rw[cr];exact aw.lt
 have ff:W.heap.size<=cw.heap.size:=bX Cs.size rt.size;have rY:∀k,F k->(cw.setCell ⟨gD,0,none⟩ (.slice hl (vs.length+1) iL)).heap[k]?=W.heap[k]?:=fun k av=>(vw k (by have:=Ct k av;omega)).trans (IU k (Ct k av));obtain⟨aE,b0,bf,cl,gc,iM,h0,gR,lA,B6,B7,M1⟩:=h.at_.at_;have aks:∀g,aF=some g->(cw.setCell ⟨gD,0,none⟩ (.slice hl (vs.length+1) iL)).heap[g]?=W.heap[g]?:=fun g R=>by obtain⟨_,fU,bo⟩:=hD lA (B6.trans R);exact(vw g (oH bo h1 K)).trans (w5 g _ _ _ K bo)
 have akt:∀k,(Value.slice hl (vs.length+1) iL).ownBlock=some k->k≠gD:=fun k hk=>by obtain⟨_,fU,bo⟩:=hD Cr hk;exact oH bo IV K
 refine⟨ka,vs.length,gH,hl,vs.length+1,iL,cw,Z h1 (i:=0) rfl,akr,akq,⟨_,Z IV (i:=0) rfl⟩,aQ IV,⟨?_,?_,?_,?_,?_,?_⟩⟩
 ·exact h.at_.stay (by rw[size_set];exact ff) rY ((vw wb r).trans (IU wb Fs)) aks
 ·refine⟨rt.os.trans (Cs.os.trans h.jp.os),rt.tape.trans (Cs.tape.trans h.jp.tape),rt.output.trans (Cs.output.trans h.jp.output),by rw[size_set];exact bX h.jp.size ff,fun k hk ag=>?_,h.jp.next,fun cs t e=>?_⟩
  ·exact((vw k r).trans (IU k r)).trans (h.jp.block k hk ag)
  ·obtain⟨fU,Y,am⟩:=h.jp.rT cs t e;exact⟨fU,((vw wb r).trans (IU wb Fs)).trans Y,am⟩
 ·exact((vw aB r).trans (w5 aB _ _ _ K h.hr)).trans h.hr
 ·exact((vw (aB+1) r).trans (w5 (aB+1) _ _ _ K h.cN)).trans h.cN
 ·exact((vw (gD+1) r).trans (w5 (gD+1) _ _ _ K h.fS)).trans h.fS
 ·refine⟨hl,iL,vs++[.slice aC c.length fj],?_,?_,?_⟩
  ·rw[cu];exact hc IV _
  ·rw[cu];exact ph Cr (fun k hk=>vw k (akt k hk))
  ·have Cu:=fun (k:Nat) (cs:Array Value) (e:W.heap[k]?=some (.cells cs 115 (0,0)))=>(vw k (oH e h1 K)).trans (w5 k _ _ _ K e);refine(fV.a8 Cu rY ab).snoc ?_;obtain⟨rs,cX,cA⟩:=ai;exact⟨rs,⟨ph cX.1 (fun k hk=>by obtain⟨_,cs,e⟩:=hD cX.1 hk;exact Cu k cs e),cX.2⟩,cA.a8 rY⟩
def qb.drew{F:Nat->Prop}{wb aW aB gD n:Nat}{G:Option Nat}{B:List bG}{O:Int}{ao:Bool}{w:World}{aF:Option Nat}{st:az}{aP:ez}{W:World}(X:wb<w.heap.size)(h:qb F wb aW aB gD n G B O ao w aF st aP W):qb F wb aW aB gD n G B O ao w aF st aP W.drew:=h.n3 X (aR.refl _ _ _).drew h.at_.drew
def Cv(a8:az->Bool×az)(n:Nat)(st:az)(aP:ez):az×ez:=((a8 st).2,if (a8 st).1 then aP++[(a8 st).2.ad.drop n] else aP)
def dk.drop{F:Nat->Prop}{w:World}:∀(k:Nat) {rs:List (Nat×Value)} {l:je},dk F w rs l->dk F w (rs.drop k) (l.drop k)
 | 0,_,_,h=>by simpa using h
 | k+1,[],[],h=>by simpa using h
 | k+1,_::_,_::_,h=>by simpa using dk.drop k h.2
 | _+1,[],_::_,h=>h.elim
 | _+1,_::_,[],h=>h.elim
def aku(aw:aM F w wb G B O ao fZ)(cr:aB=w.heap.size)(jL:aB+2<=gD)(ae:w.heap[aW]?=some (.cells cs 103 (0,0)))(q9:cs[2]?=some wv)(a8:az->Bool×az)(h:qb F wb aW aB gD n G B O ao w aF st aP W)(dI:aP.length<=100000)(ar:n<(a8 st).2.ad.length)(er:(a8 st).2.ad.length<=10000)(cW:ey 72 #[M wb,wv] W.drew (Cq F wb aF B O ao (a8 st).1 (a8 st).2 W.drew)):ey 161 #[M aB,.pointer (some ⟨aB+1,0,none⟩),M gD,.pointer (some ⟨gD+1,0,none⟩)] W fun e w'=>e=.returned (.tuple #[])/\∃w4,qb F wb aW aB gD n G B O ao w w4 (Cv a8 n st aP).1 (Cv a8 n st aP).2 w':=by
 have X:=aw.lt;have VT:∀{cP st1 akv ih},qb F wb aW aB gD n G B O ao w cP st1 akv ih->dp ih aW 2=some wv:=fun dP=>Z (dP.jp.gg aw K K ae) q9;unfold Cv;simp only[];refine ajF (vv:=n) (a8 st).1 (fun J=>∃cP,qb F wb aW aB gD n G B O ao w cP (a8 st).2 aP J) _ W (Z h.hr (i:=0) rfl) (Z h.cN (i:=0) rfl) (VT h) (cW.mono ?_) ?_ ?_ ?_
 ·rintro e J ⟨rfl,cP,aI,aZ⟩;exact⟨rfl,cP,(h.drew X).n3 X aZ aI⟩
 ·rintro J ⟨cP,dP⟩;exact⟨Z dP.hr (i:=0) rfl,Z dP.cN (i:=0) rfl,VT dP⟩
 ·rintro A J ⟨cP,dP⟩;rw[A];exact⟨cP,dP⟩
 ·rintro A J ⟨cP,dP⟩;rw[A];obtain⟨aE,b0,bf,cl,gc,iM,h0,gR,lA,B6,B7,M1⟩:=dP.at_.at_;obtain⟨g,fm,ay,rfl,q1,bN,fR,iK,j4,km⟩:∃g af ay,b0=.slice (some ⟨g,0,none⟩) (a8 st).2.ad.length af/\0<=g/\J.heap[g]?=some (.cells ay 115 (0,0))/\(a8 st).2.ad.length<=af/\af<=maxLen/\ay.size=af*2/\ay.toList.take ((a8 st).2.ad.length*2)=cQ iM:=by
   rcases lA.2 with⟨_,aY⟩ | aa
   ·omega
   ·exact aa
  obtain⟨ka,gH,vs,h1,H,ab⟩:=dP.bL;refine⟨g,(a8 st).2.ad.length,fm,ka,vs.length,gH,Z h1 (i:=0) rfl,Z dP.fS (i:=0) rfl,Z h0 (i:=2) rfl,ar,fR,?_⟩;have b7:(iM.drop n).length=(a8 st).2.ad.length-n:=by rw[List.length_drop,B7.len]
  have BA:((a8 st).2.ad.drop n).length=(a8 st).2.ad.length-n:=by rw[List.length_drop]
  have pN:=ajE g (n*2) (fm-n) (iM.drop n) J.drew (fun j bp aS=>by
   rw[<-SX,List.getElem?_drop] at aS;have:=lA.cells rfl _ _ aS;rw[Addr.add_lit,ax1] at this;exact this) (br bN).1 (B7.drop n).one r
  rw[b7] at pN;refine pN.mono ?_;rintro e S ⟨v,rfl,hv,ah⟩;obtain⟨aC,fj,rfl⟩:=cG hv;have VU:=(dP.drew X).n3 X (aR.of ah) ((dP.drew X).at_.below ah);have kc:eg (jS wb cP) S 115 2 (.slice aC ((a8 st).2.ad.length-n) fj) ((a8 st).2.ad.length-n) (cQ (iM.drop n)):=by
   refine⟨ei bu hv,fun k hk=>?_⟩;have bZ:=(hD hv hk).1;have q8:J.drew.heap.size=J.heap.size:=rfl;rw[q8] at bZ;refine⟨?_,fun e=>?_⟩
   ·have:=dP.at_.lt;omega
   ·have:=(dP.at_.mZ k e).1;omega
  have Cw:dk F S (iM.drop n) ((a8 st).2.ad.drop n):=dk.a8 (w:=J) (fun k av=>ah.block k (dP.at_.fH k av)) (B7.drop n);rw[<-BA] at kc;obtain⟨asT,asU,asV,hl,e2,iL,cw,p1,p2,fw,pf,rR,sQ⟩:=VU.push aw cr jL dI ⟨_,kc,Cw⟩;have akw:S.heap[gD]?=some (.cells #[.slice ka vs.length gH] 93 (0,0)):=(ah.block gD (br h1).1).trans h1;have fg:dp S gD 0=some (.slice ka vs.length gH):=Z akw (i:=0) rfl;rw[fg] at p1;injection p1 with p1;injection p1 with Y am bm;subst Y am bm;exact⟨aC,(a8 st).2.ad.length-n,fj,hl,e2,iL,cw,rfl,⟨Z VU.hr (i:=0) rfl,fg,p2⟩,by rw[BA] at fw;exact fw,pf,rR,cP,by rw[if_pos rfl];exact sQ⟩
def We(B:List bG):∀l:lh,p8 B l=fY B l
 | []=>rfl
 | s::C=>by rw[p8,L7,We B C]
def FC(F:Nat->Prop)(wb:Nat)(G:Option Nat)(B:List bG)(O:Int)(ao:Bool)(st:az)(l:ez)(w:World)(gr:Value)(w':World):Prop:=∃aF,aM F w' wb aF B O ao st/\aR wb G aF w w'/\∃vs,w'.ownsRow w.heap.size 92 1 gr vs.length vs/\fV F wb aF w' vs l
def ak3{E:List eO}{V:lh}{a8:az->Bool×az}{m:Nat}{sv:Value}(bi:nW B)(w:World)(aw:aM F w wb G B O ao st)(ae:w.heap[aW]?=some (.cells cs 103 (0,0)))(dG:cs[1]?=some sv)(fg:cs[2]?=some wv)(hs:qS w sv V)(dV:1<=V.length)(iu:V.length<=3)(av:∀s∈V,∃i,fD B s.1=some i)(ag:cB E st.ad)(eU:E.length<=1000)(hw:gI m st)(hm:m<=900000000000000)(hk:∀s,cB (E++ea B V) s.ad->gI 0 s->cB (E++ea B V) (a8 s).2.ad/\gI k (a8 s).2)(cW:∀(W:World) (aF:Option Nat) (s:az),aR wb G aF w W->aM F W wb aF B O ao s->cB (E++ea B V) s.ad->gI 0 s->ey 72 #[M wb,wv] W (Cq F wb aF B O ao (a8 s).1 (a8 s).2 W)):ey 111 #[M wb,M aW] w fun e w'=>∃gr,e=.returned gr/\FC F wb G B O ao (iJ B V a8 st).1 (iJ B V a8 st).2 w gr w':=by
 have X:=aw.lt;have jz:=(br ae).1;have NK:=ag.len;have w9:=VE w wb aW;have IZ:Below w.heap.size w (boxes w wb aW).drew:=⟨w9.os,w9.tape,w9.output,w9.size,w9.block⟩;have Cy:=aw.below IZ;have Ei:=Tm bi iu;have tZ:(boxes w wb aW).drew.heap[w.heap.size]?=some (.cells #[M wb] 153 (0,0)):=VF w wb aW;have Wf:(boxes w wb aW).drew.heap[w.heap.size+1]?=some (.cells #[M aW] 54 (0,0)):=VG w wb aW;have ak4:=(IZ.block aW jz).trans ae;have ff:(boxes w wb aW).drew.heap.size=w.heap.size+2:=ajG w wb aW;obtain⟨a,af,rfl,om⟩:=hs.1;obtain⟨gs,off,ay,C6,sx,vx⟩:=hs.2 _ _ _ rfl dV;have aN:=ajp (.slice a V.length af) V (boxes w wb aW).drew Cy (hs.below IZ) iu (fun s _=>L5 bi s) av (by have:=hw.1;omega)
 have pw:∀J,aR wb G G (boxes w wb aW).drew J->aR wb G G w J:=fun J aa=>(aR.of IZ).trans X aa;refine ajH (N:=fY B V) (n:=st.ad.length) (sv:=.slice a V.length af) (fun J=>aM F J wb G B O ao (mQ (fY B V) st)/\aR wb G G (boxes w wb aW).drew J) _ w X jz (Z ae dG) aN (fun J ⟨q1,bN⟩=>?_) (fun cS J ⟨q1,bN⟩=>?_) (fun cS J ⟨q1,bN⟩=>?_)
 ·obtain⟨aE,b0,bf,cl,gc,rs,aI,aZ,a6,dt,e8,i8⟩:=q1.at_;obtain⟨eL,fm,e⟩:=cG a6;refine⟨by have:=bN.size;omega,Z (bN.gg Cy K K tZ) (i:=0) rfl,Z (bN.gg Cy K K Wf) (i:=0) rfl,Z (bN.gg Cy K K ak4) dG,eL,fm,?_⟩;have:=Z aI (i:=2) rfl;rw[e] at this;exact this
 ·have e:iJ B V a8 st=(mQ 0 st,[]):=by unfold iJ;rw[if_pos cS]
  rw[e];rw[cS] at q1;exact⟨G,q1,pw J bN,[],World.ownsRow_nil _ _ _ _,trivial⟩
 ·have e:iJ B V a8 st=hB B (Cv a8 st.ad.length) V (mQ (fY B V) st) []:=by unfold iJ;rw[if_neg cS];rfl
  rw[e];have ah:Below J.heap.size J ((J.alloc (.cells #[.slice none 0 0] 93)).alloc (.cells #[q (st.ad.length:Int)] 3)).drew:=by have:=((Below.refl _ J).alloc ap (.cells #[.slice none 0 0] 93)).alloc (by rw[cc];omega) (.cells #[q (st.ad.length:Int)] 3);exact⟨this.os,this.tape,this.output,this.size,this.block⟩
  have bM:((J.alloc (.cells #[.slice none 0 0] 93)).alloc (.cells #[q (st.ad.length:Int)] 3)).drew.heap[J.heap.size]?=some (.cells #[.slice none 0 0] 93 (0,0)):=(Below.heap_alloc _ _ J.heap.size (by rw[cc];omega)).trans (bH J _);have b9:((J.alloc (.cells #[.slice none 0 0] 93)).alloc (.cells #[q (st.ad.length:Int)] 3)).drew.heap[J.heap.size+1]?=some (.cells #[q (st.ad.length:Int)] 3 (0,0)):=by have U:=bH (J.alloc (.cells #[.slice none 0 0] 93)) (.cells #[q (st.ad.length:Int)] 3);rwa [cc] at U
  generalize ((J.alloc (.cells #[.slice none 0 0] 93)).alloc (.cells #[q (st.ad.length:Int)] 3)).drew=h5 at *;have OI:aR wb G G (boxes w wb aW).drew h5:=bN.below ah;have ak5:qb F wb aW w.heap.size J.heap.size st.ad.length G B O ao w G (mQ (fY B V) st) [] h5:=⟨q1.below ah,pw h5 OI,OI.gg Cy K K tZ,OI.gg Cy K K Wf,b9,none,0,[],bM,World.ownsRow_nil _ _ _ _,trivial⟩;have jL:w.heap.size+2<=J.heap.size:=by have:=bN.size;omega
  have ak6:Vv F wb B O ao w gs ay 161 #[M w.heap.size,.pointer (some ⟨w.heap.size+1,0,none⟩),M J.heap.size,.pointer (some ⟨J.heap.size+1,0,none⟩)] (E.length+V.length) (p8 B V) (Cv a8 st.ad.length) (fun l s=>sI E B V (m+1000000000000+k) l s/\(s.dE=false->fY B V<=20000)) (qb F wb aW w.heap.size J.heap.size st.ad.length G B O ao w):=by
   have te:∀{s},sI E B V (m+1000000000000+k) [] s->s.dE=false->cB (E++ea B V) s.ad/\gI 0 s:=fun {s} gA iT=>by obtain⟨pre,e,p1,p2⟩:=gA;rw[List.append_nil] at e;subst e;exact⟨p1,p2.zero iT⟩
   refine⟨fun h=>h.at_,fun h hk aO=>h.n3 X hk aO,fun h k av=>h.jp.block k (aw.fH k av) (aw.own k av),fun h=>h.jp.gg aw K K sx,fun h=>h.1.len,fun h aa=>⟨h.1.kI bi aa,h.2⟩,fun aw h=>⟨aw.1.out h.1,h.2⟩,fun ⟨gA,nL⟩ iT=>?_,enters_of func161 ax rfl,fun {s aP}=>?_,fun {aF s aP W} dP ⟨gA,nL⟩ iT ak7=>?_⟩
   ·obtain⟨bz,cz⟩:=te gA iT;obtain⟨h0,gR⟩:=hk _ bz cz;exact⟨⟨V,by rw[List.append_nil],h0,gR.mono r⟩,fun _=>nL iT⟩
   ·unfold Cv;simp only[];split
    ·rw[cu];exact ap
    ·omega
   ·obtain⟨bz,cz⟩:=te gA iT;obtain⟨h0,gR⟩:=hk _ bz cz;have G1:=h0.len;rw[cu,Hy] at G1;rw[We] at ak7;have nL:=nL iT;exact aku aw rfl jL ae fg a8 dP r r r (cW W.drew aF s dP.jp.drew dP.at_.drew bz cz)
  refine(ajt ak6 r V off af a G (mQ (fY B V) st) [] h5 0 ap r vx om (fun _=>C6) (fun s _=>L5 bi s) av ⟨⟨[],rfl,by show cB (E++[]) st.ad;rw[List.append_nil];exact ag,(L8 hw Ei).mono r⟩,fun e=>(Tr hw (fY B V)).resolve_left (by rw[e];simp)⟩ ak5).mono ?_;rintro e aA ⟨rfl,aF,dP,_,_⟩;obtain⟨ka,gH,vs,h1,H,ab⟩:=dP.bL;exact⟨rfl,ka,vs.length,gH,Z h1 (i:=0) rfl,⟨Z dP.hr (i:=0) rfl,Z dP.cN (i:=0) rfl,Z (dP.jp.gg aw K K ae) dG⟩,aF,dP.at_,dP.jp,vs,H,ab⟩
