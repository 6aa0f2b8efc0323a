import Derived.Test.YtjebdgbpopolkaaGreatDoorM019
import Derived.Test.YtjebdgbpopolkaaGreatDoorM021
set_option maxHeartbeats 0
set_option maxRecDepth 100000
set_option linter.all false
namespace Go.Proofs.YtjebdgbpopolkaaGreatDoor
open Tryz
open Go.RowKit
open bS
variable{s:e6}{t:aL}{w w' J:World}{aB base k lo m n size tag wb:Nat}{bp v x:Value}{xs ys:List Value}{G aF:Option Nat}{F:Nat->Prop}{e:TypeId}{B bd:List bG}{O:Int}{ao:Bool}{st fZ st2:az}{I:List dC}{ok:az->Prop}{V:lh}
def hC(s:e6):Option (e4×aL):=if s.size<=400 then (ku s).bind fun l=>(kE (l.map fun x=>(⟨x.toArray⟩:e6))).bind fun x=>if x.1=[] then some (l.map (fun x=>(⟨x.toArray⟩:e6)),x.2) else none else none
def Ur(ts:e4):(ts.map (·.data.toList)).map (fun x=>(⟨x.toArray⟩:e6))=ts:=by
 rw[List.map_map];conv=>rhs;rw[<-List.map_id ts]
 exact List.map_congr_left (fun t _=>by simp)
def Us{ts:e4}(h1:s.size<=400)(H:ku s=some (ts.map (·.data.toList)))(ab:kE ts=some ([],t)):hC s=some (ts,t):=by unfold hC;rw[if_pos h1,H,b2,Ur,ab,b2,if_pos rfl]
def ES(h:400<s.size\/ku s=none\/∃ts:e4,ku s=some (ts.map (·.data.toList))/\∀t,kE ts≠some ([],t)):hC s=none:=by
 unfold hC;rcases h with h | h | ⟨ts,h1,H⟩
 ·rw[if_neg r]
 ·rw[h];split<;>rfl
 ·split
  ·rw[h1,b2,Ur];cases ab:kE ts with
   | none=>rfl
   | some x=>
    obtain⟨C,t⟩:=x;rw[b2];split
    ·rename_i aK;simp only[] at aK;subst aK;exact absurd ab (H t)
    ·rfl
  ·rfl
def kq(s:e6)(fe:List Nat):Nat:=match hC s with
 | none=>1
 | some x=>if ek fe (gq x.1) then (if 6<dep x.2 then 2 else 0) else 1
def ahk(s:e6)(fe:List Nat)(w:World)(e:Ending)(w':World):Prop:=eB w w'/\((kq s fe≠0/\e=.returned (.tuple #[ui,q (kq s fe:Int)]))\/∃ts t x hi,kq s fe=0/\hC s=some (ts,t)/\ts.length<=400/\e=.returned (.tuple #[.agg #[q (gq ts:Int),q (mM ts),M x],q 0])/\df w' w.heap.size hi t [M x])
def ahl(s:e6)(fe:List Nat)(kr:Value)(w:World)(R:et w)(av:uh w kr fe)(iT:fe.length<=100):ey 38 #[.string s,kr] w (ahk s fe w):=by
 have k0:=R.js;have tL:=bH w (.cells #[q 0,q 0,.pointer none] 75);have kF:eB w (w.alloc (.cells #[q 0,q 0,.pointer none] 75)):=cT;have th:et (w.alloc (.cells #[q 0,q 0,.pointer none] 75)):=R.below kF k0;have ahm:Hid (∀W,eB w W->uh W kr fe):=u (fun W A=>ee av A);obtain⟨gb,gd,rfl⟩:=av.len;have z0:(w.alloc (.cells #[q 0,q 0,.pointer none] 75)).heap.size=w.heap.size+1:=by simp
 have dy:=u (Un s _ th);clear av th;go_enter func38,ntmps38;go_upto_region 1 with fail;generalize w.alloc (.cells #[q 0,q 0,.pointer none] 75)=hz at *;go_wp2_with (fail);refine dy.d.mono ?_;rintro e J (⟨v,ts,t,sp,x,DV,rj,mi,mf,nL,c4,rfl,iF,⟨nM,fz⟩,bJ⟩ | ⟨b8,⟨v,rfl⟩,bJ⟩)
 ·have b7:=bX (MY mi) rj;obtain⟨tN,Cz⟩:=MX b7 c4;have H3:=u (Us rj mi c4);have ahn:=DV.d;subst ahn;obtain⟨k,hk,x3⟩:=Sy r tN J hz.heap.size _ _ fz r;obtain rfl:(⟨x,0,none⟩:Addr)=k:=by simpa using hk
  have dF:eB J (J.alloc (.cells #[q (gq ts:Int),q (mM ts),M x] 75)):=cT;have ht:=u (x3 _ dF);have fq:=bH J (.cells #[q (gq ts:Int),q (mM ts),M x] 75);have b3:=bJ.size;have ah:eB w (J.alloc (.cells #[q (gq ts:Int),q (mM ts),M x] 75)):=kF.trans ((bJ.mono r).trans (dF.mono r));have ju:=(dF.block w.heap.size r).trans ((bJ.block w.heap.size r).trans tL);have kj:=u (fz.kept (Lq dF));have MZ:=u b7;clear x3 hk tN mi mf c4 nL iF fz bJ dF tL kF DV dy Cz;generalize Ah:dep t=aq at *;have H2:=u Ah;clear Ah;go_upto_region 2 with fail
  have H4:Hid (∀W,J.alloc (.cells #[q (gq ts:Int),q (mM ts),M x] 75)=W->ey 64 #[.slice gb fe.length gd,q (gq ts:Int)] W (ov W (.bool (ek fe (gq ts))))):=u (fun W e=>by subst e;exact ahd _ fe (gq ts) _ (ahm.d _ ah) iT);generalize J.alloc (.cells #[q (gq ts:Int),q (mM ts),M x] 75)=W at *;have cW:=u (H4.d W rfl);have eR:dp W J.heap.size 0=some (q (gq ts:Int)):=Z fq (i:=0) rfl;have l1:dp W J.heap.size 1=some (q (mM ts)):=Z fq (i:=1) rfl;have bT:dp W J.heap.size 2=some (M x):=Z fq (i:=2) rfl;have M0:Hid (kq s fe=if ek fe (gq ts) then (if 6<aq then 2 else 0) else 1):=u (by unfold kq;rw[H3.d];simp only[];rw[H2.d]);have c3:=Z ju (i:=0) rfl;have cX:=Z ju (i:=1) rfl
  have cA:=Z ju (i:=2) rfl;have g0:=aQ (i:=0) ju;have g1:=aQ (i:=1) ju;have g2:=aQ (i:=2) ju;have gS:=u ah;have aho:=u (And.intro ju fq);have ET:Hid (ey 65 #[M x] W fun e aA=>e=.returned (q (aq:Int))/\dp aA w.heap.size 0=some (q 0)/\dp aA w.heap.size 1=some (q 0)/\dp aA w.heap.size 2=some (.pointer none)/\aA.frozen? ⟨w.heap.size,0,none⟩=false/\aA.frozen? ⟨w.heap.size,1,none⟩=false/\aA.frozen? ⟨w.heap.size,2,none⟩=false/\dp aA J.heap.size 0=some (q (gq ts:Int))/\dp aA J.heap.size 1=some (q (mM ts))/\dp aA J.heap.size 2=some (M x)/\Hid (eB W aA)):=u (ht.d.mono (by
   rintro e aA ⟨rfl,cg⟩;obtain⟨aI,aZ⟩:=aho.d;have aI:=(cg.block w.heap.size (br aI).1).trans aI;have aZ:=(cg.block J.heap.size (br aZ).1).trans aZ;exact⟨rfl,Z aI (i:=0) rfl,Z aI (i:=1) rfl,Z aI (i:=2) rfl,aQ aI,aQ aI,aQ aI,Z aZ (i:=0) rfl,Z aZ (i:=1) rfl,Z aZ (i:=2) rfl,u cg⟩))
  clear fq ju H4 ah ht;generalize asg:ek fe (gq ts)=IN at *;cases IN with
  | false=>have eo:Hid (kq s fe=1):=u (by rw[M0.d];rfl);go_wp2_with (go_at_call 64;refine cW.d.mono ?_;rintro e S ⟨rfl,rfl⟩);refine bodyPost_ret (v:=.tuple #[.agg #[q 0,q 0,.pointer none],q 1]) (by simp[results,results38,go_sem, *]) rfl ⟨?_,.inl ⟨by rw[eo.d];decide,by rw[eo.d];rfl⟩⟩;exact((gS.d.setCell ap _).setCell ap _).setCell ap _
  | true=>
   by_cases cE:6<aq
   ·have ss:(6:Int)<(aq:Int):=r;have eo:Hid (kq s fe=2):=u (by rw[M0.d,if_pos rfl,if_pos cE]);go_wp2_with (first | (go_at_call 64;refine cW.d.mono ?_;rintro e S ⟨rfl,rfl⟩) | (go_at_call 65;refine ET.d.mono ?_;rintro e aA ⟨rfl,pM,h0,gR,lA,B6,B7,M1,ahq,ahr,cg⟩));refine bodyPost_ret (v:=.tuple #[.agg #[q 0,q 0,.pointer none],q 2]) (by simp[results,results38,go_sem, *]) rfl ⟨?_,.inl ⟨by rw[eo.d];decide,by rw[eo.d];rfl⟩⟩;exact(((gS.d.trans (cg.d.mono gS.d.size)).setCell ap _).setCell ap _).setCell ap _
   ·have ss:(aq:Int)<=6:=r;have eo:Hid (kq s fe=0):=u (by rw[M0.d,if_pos rfl,if_neg cE]);go_wp2_with (first | (go_at_call 64;refine cW.d.mono ?_;rintro e S ⟨rfl,rfl⟩) | (go_at_call 65;refine ET.d.mono ?_;rintro e aA ⟨rfl,pM,h0,gR,lA,B6,B7,M1,ahq,ahr,cg⟩));refine bodyPost_ret (v:=.tuple #[.agg #[q (gq ts:Int),q (mM ts),M x],q 0]) (by simp[results,results38,go_sem, *]) rfl ⟨?_,.inr ⟨ts,t,x,nM,eo.d,H3.d,MZ.d,rfl,?_⟩⟩
    ·exact(((gS.d.trans (cg.d.mono gS.d.size)).setCell ap _).setCell ap _).setCell ap _
    ·have oo:=kj.d.kept (Lq cg.d);exact(((oo.kept (it _ _ (show w.heap.size<hz.heap.size by omega))).kept (it _ _ (show w.heap.size<hz.heap.size by omega))).kept (it _ _ (show w.heap.size<hz.heap.size by omega))).low r
 ·have eo:Hid (kq s fe=1):=u (by unfold kq;rw[ES b8]);have b3:=bJ.size;have dF:eB J (J.alloc (.cells #[q 0,q 0,.pointer none] 75)):=cT;have ah:eB w (J.alloc (.cells #[q 0,q 0,.pointer none] 75)):=kF.trans ((bJ.mono r).trans (dF.mono r));have ju:=(dF.block w.heap.size r).trans ((bJ.block w.heap.size r).trans tL);have gS:=u ah;clear b8 bJ dF tL kF dy ah;unfold ui;go_upto_region 2 with fail;generalize J.alloc (.cells #[q 0,q 0,.pointer none] 75)=W at *;have c3:=Z ju (i:=0) rfl;have cX:=Z ju (i:=1) rfl;have cA:=Z ju (i:=2) rfl;have g0:=aQ (i:=0) ju;have g1:=aQ (i:=1) ju;have g2:=aQ (i:=2) ju;clear ju;go_wp2_with fail
  refine bodyPost_ret (v:=.tuple #[.agg #[q 0,q 0,.pointer none],q 1]) (by simp[results,results38,go_sem, *]) rfl ⟨?_,.inl ⟨by rw[eo.d];decide,by rw[eo.d];rfl⟩⟩;exact((gS.d.setCell ap _).setCell ap _).setCell ap _
def Ut:(prog.info? 40).map (fun i=>(i.zero,i.size,i.bytes))=some (some (.agg #[.string ⟨#[]⟩,q 0]),2,24):=ax
def ahs(w:World):ey 132 #[.slice none 0 0,q 0] w (ov w (.slice none 0 0)):=by go_enter func132,ntmps132;go_wp2_with fail;go_ret;exact⟨rfl,rfl⟩
def aht(n:Nat)(w:World)(h1:1<=n)(ar:n<=1000000):ey 132 #[.slice none 0 0,q (n:Int)] w fun e w'=>∃G,e=.returned (.slice (some ⟨w.heap.size,0,none⟩) 0 G)/\w'.ownsRow w.heap.size 40 2 (.slice (some ⟨w.heap.size,0,none⟩) 0 G) 0 []/\eB w w':=by
 obtain⟨i0,hi,gj,gx,cd⟩:=info_parts Ut;have GX:(0:Int)<(n:Int):=r;have xZ:∀ty,(Builtin.append_ #[35,3] ty #[.slice none 0 0,q (n:Int)]).run prog w=.ok (.slice (some ⟨w.heap.size,0,none⟩) (0+n) (grownCap w (0+n) 0 40)) (w.drew.alloc (.cells (([]:List Value).toArray++Builtin.zeroCells (.agg #[.string ⟨#[]⟩,q 0]:Value).cells n++Builtin.zeroCells (.agg #[.string ⟨#[]⟩,q 0]:Value).cells (grownCap w (0+n) 0 40-(0+n))) 40)):=fun ty=>Lib.run_append_grow_zeros w 35 3 ty 40 i0 (.agg #[.string ⟨#[]⟩,q 0]) .i64 .i64 underlying35 underlying3 hi gj none 0 0 [] (run_firstCells_none w.drew i0.size 0 0 0) n r r r r (by rw[cd];omega) (growslice_fits r (by rw[cd];omega))
 have DQ:0+n<=grownCap w (0+n) 0 40:=grownCap_ge w _ _ _;have x0:=grownCap_le_maxLen w (0+n) 0 40 (by unfold maxLen;omega);generalize grownCap w (0+n) 0 40=G at *;rw[ax1] at xZ DQ;have lS:(.agg #[.string ⟨#[]⟩,q 0]:Value).cells.size=2:=rfl;have ff:(([]:List Value).toArray++Builtin.zeroCells (.agg #[.string ⟨#[]⟩,q 0]:Value).cells n++Builtin.zeroCells (.agg #[.string ⟨#[]⟩,q 0]:Value).cells (G-n)).size=G*2:=by rw[Array.size_append,Array.size_append,size_zeroCells,size_zeroCells,lS];simp;omega
 generalize ([]:List Value).toArray++Builtin.zeroCells (.agg #[.string ⟨#[]⟩,q 0]:Value).cells n++Builtin.zeroCells (.agg #[.string ⟨#[]⟩,q 0]:Value).cells (G-n)=ay at *;have GY:(G:Int)<=9223372036854775807:=by unfold maxLen at x0;omega
 have Sl:(n:Int)<=(G:Int):=r;go_enter func132,ntmps132;go_wp2_with (at_builtin;refine Lib.wpList_append_run _ rfl _ _ _ _ rfl _ _ rfl rfl _ _ (xZ _) ?_);all_goals
  go_ret;exact⟨G,rfl,World.ownsRow_made w.drew ay G ap x0 ff,((Below.refl _ w).drew).alloc ap _⟩
def ahu(n:Nat)(w:World)(ar:n<=1000000):ey 132 #[.slice none 0 0,q (n:Int)] w fun e w'=>∃a G,e=.returned (.slice a 0 G)/\w'.ownsRow w.heap.size 40 2 (.slice a 0 G) 0 []/\eB w w':=by
 by_cases h:n=0
 ·subst h;refine(ahs w).mono ?_;rintro e w' ⟨rfl,rfl⟩;exact⟨none,0,rfl,World.ownsRow_nil _ _ _ _,Below.refl _ _⟩
 ·refine(aht n w r ar).mono ?_;rintro e w' ⟨G,rfl,h1,H⟩;exact⟨_,G,rfl,h1,H⟩
def ahv(hv:w.ownsRow base 40 2 v n xs)(hu:w.ownsRow 0 40 2 bp m ys)(h1:∀y∈ys,y.oneCell'=true)(ou:n+m<=10000000)(A:base<=w.heap.size):∃cF w',(∀ty,(Builtin.append_ #[35,35] ty #[v,bp]).run prog w=.ok cF w')/\w'.ownsRow base 40 2 cF (n+m) (xs++ys)/\w.grownBy w' v.ownBlock:=by
 obtain⟨i0,hi,gj,gx,cd⟩:=info_parts Ut;rcases hu.2 with⟨rfl,rfl⟩ | ⟨g,af,ay,rfl,_⟩
 ·have hy:ys=[]:=ma (by rw[hu.1,Nat.zero_mul]);subst hy;refine⟨v,w,fun ty=>run_append_owned_none w base _ ty _ i0 2 underlying35 hi v n xs hv,by simpa using hv,uQ _ _⟩
 ·have ai:=hu.cells rfl;obtain⟨cF,w',ag,H,ab,_⟩:=run_append_own (P:=prog) w base 35 35 40 i0 (.agg #[.string ⟨#[]⟩,q 0]) 2 24 underlying35 hi gj gx cd rfl K v n xs hv ⟨g,0,none⟩ m af ys hu.1 ai h1 (by unfold maxLen;omega) r A;refine⟨cF,w',fun ty=>?_,H,ab⟩;have:Builtin.append_ #[35,35] ty #[v,.slice (some ⟨g,0,none⟩) m af]=Builtin.append_ #[35,35] 35 #[v,.slice (some ⟨g,0,none⟩) m af]:=rfl;rw[this];exact ag
def jR(a1:List (Value×Nat×List Value)):Nat:=(a1.map (·.2.1)).foldl (· + ·) 0
def sO(a1:List (Value×Nat×List Value)):List Value:=a1.flatMap (·.2.2)
def ahw(a1:List (Value×Nat×List Value))(s:Value×Nat×List Value):jR (a1++[s])=jR a1+s.2.1:=by unfold jR;rw[List.map_append,List.foldl_append];rfl
def ahx(a1:List (Value×Nat×List Value))(s:Value×Nat×List Value):sO (a1++[s])=sO a1++s.2.2:=by unfold sO;rw[List.flatMap_append];simp
def ahy(a1:List (Value×Nat×List Value)):∀j,j<=a1.length->jR (a1.take j)<=jR a1:=by
 have h:∀(l:List Nat) (a:Nat),a<=l.foldl (· + ·) a:=fun l=>by
  induction l with
  | nil=>intro a;exact ap
  | cons x C aH=>intro a;exact bX (Nat.le_add_right a x) (aH (a+x))
 intro j aS;have e:a1.map (·.2.1)=(a1.take j).map (·.2.1)++(a1.drop j).map (·.2.1):=by rw[<-List.map_append,List.take_append_drop]
 unfold jR;rw[e,List.foldl_append];exact h _ _
def ahz(sv:Value)(a1:List (Value×Nat×List Value))(w:World)(an:w.ownsRow 0 35 1 sv a1.length (a1.map (·.1)))(wM:∀s∈a1,w.ownsRow 0 40 2 s.1 s.2.1 s.2.2/\∀y∈s.2.2,y.oneCell'=true)(au:jR a1<=1000000)(X:a1.length<=1000000):ey 85 #[sv] w fun e w'=>∃v,e=.returned v/\w'.ownsRow w.heap.size 40 2 v (jR a1) (sO a1)/\eB w w':=by
 obtain⟨eD,B8,rfl⟩:=cG an;have wN:=u (ahy a1);have e9:Hid (∀W,eB w W->∀j (h:j<a1.length),∃g a c,eD=some ⟨g,0,none⟩/\a1[j].1=.slice a a1[j].2.1 c/\dp W g j=some (.slice a a1[j].2.1 c)):=u (fun W A j aS=>by
  have ag:=ee an A;obtain⟨a,c,e⟩:=cG (wM _ (ec aS)).1;rcases ag.2 with⟨_,aw⟩ | ⟨g,af,ay,Y,_⟩
  ·omega
  ·injection Y with Y _ _;subst Y;have:=ag.cells rfl j a1[j].1 (by rw[List.getElem?_map,fC aS];rfl);rw[Addr.add_lit,ax1,e] at this;exact⟨g,a,c,rfl,e,this⟩)
 have yk:Hid (∀W,eB w W->∀j (h:j<a1.length),W.ownsRow 0 40 2 a1[j].1 a1[j].2.1 a1[j].2.2/\∀y∈a1[j].2.2,y.oneCell'=true):=u (fun W A j aS=>⟨ee (wM _ (ec aS)).1 A,(wM _ (ec aS)).2⟩);have dy:=u au;have EU:Hid (∀j (h:j<a1.length),jR (a1.take (j+1))=jR (a1.take j)+a1[j].2.1/\sO (a1.take (j+1))=sO (a1.take j)++a1[j].2.2):=u (fun j aS=>by rw[jD aS];exact⟨ahw _ _,ahx _ _⟩);have bK:Hid (jR (a1.take a1.length)=jR a1/\sO (a1.take a1.length)=sO a1):=u (by rw[List.take_length];exact⟨rfl,rfl⟩);have Ai:Hid (jR (a1.take 0)=0/\sO (a1.take 0)=[]):=u ⟨rfl,rfl⟩;clear an wM au;go_enter func85,ntmps85;go_upto_block 0 with fail;go_cut [3] (fun aE wc=>aE=q (jR a1:Int)/\wc=w);case first=>
  go_wp2_with fail;go_loopg [3,11] (a1.length+1) (fun U aE i wr=>∃j:Nat,j<=a1.length/\aE=q (jR (a1.take j):Int)/\i=q (j:Int)/\wr=w/\a1.length-j<U);case atStart=>exact⟨0,bu,by rw[Ai.d.1];rfl,rfl,rfl,r⟩
  case round=>
   obtain⟨j,aS,rfl,rfl,fr,ae⟩:=hrel;subst fr;by_cases aD:j<a1.length
   ·have cL:(j:Int)<(a1.length:Int):=r;obtain⟨g,a,c,rfl,he,iV⟩:=e9.d wr (Below.refl _ _) j aD;obtain⟨nU,-⟩:=EU.d j aD;have hle:=wN.d (j+1) aD;have au:=dy.d;rw[nU] at hle;have q8:IntKind.i64.wrap ((jR (a1.take j):Int)+(a1[j].2.1:Int))=(jR (a1.take j):Int)+(a1[j].2.1:Int):=mC;have q9:IntKind.i64.wrap ((j:Int)+1)=(j:Int)+1:=mC;have dA:¬((jR (a1.take j):Int)+(a1[j].2.1:Int)<0):=r;have bn:Hid (jR (a1.take (j+1))=jR (a1.take j)+a1[j].2.1):=u nU;have ch:=u ae;clear he nU hle ae au;generalize a1[j].2.1=N at *;generalize jR (a1.take j)=T at *;go_wp2_with fail;have ae:=ch.d;go_roundg (a1.length-j);case measure=>omega
    case rel=>exact⟨j+1,r,by rw[bn.d];push_cast;rfl,by go_num,rfl,r⟩
   ·have eZ:j=a1.length:=r;subst eZ;have cL:(a1.length:Int)<=(a1.length:Int):=r;obtain⟨Y,am⟩:=bK.d;rw[Y];clear ae;go_wp2_with fail;go_meet;case rel=>exact⟨rfl,rfl⟩
 case rest=>
  obtain⟨rfl,uj⟩:=hcut;subst uj;obtain⟨fI,rfl⟩:∃x,x=wc:=⟨wc,rfl⟩;have Aj:=u (ahu (jR a1) fI dy.d);go_upto_region 10 with(go_at_call 132;refine Aj.d.mono ?_;rintro e J ⟨bf,G,rfl,iF,bJ⟩);have qD:=u iF;have qN:=u bJ;clear iF bJ Aj;go_upto_region 11 with fail;go_loopg [6,27] (a1.length+1) (fun U b0 i wr=>∃j:Nat,j<=a1.length/\i=q (j:Int)/\Hid (wr.ownsRow fI.heap.size 40 2 b0 (jR (a1.take j)) (sO (a1.take j)))/\Hid (eB fI wr)/\a1.length-j<U);case atStart=>exact⟨0,bu,rfl,u (by rw[Ai.d.1,Ai.d.2];exact qD.d),qN,r⟩
  case round=>
   obtain⟨j,aS,rfl,ag,A,ae⟩:=hrel;by_cases aD:j<a1.length
   ·have cL:(j:Int)<(a1.length:Int):=r;obtain⟨g,a,c,rfl,he,iV⟩:=e9.d wr A.d j aD;obtain⟨aI,aZ⟩:=yk.d wr A.d j aD;obtain⟨nU,nN⟩:=EU.d j aD;have hle:=wN.d (j+1) aD;have au:=dy.d;rw[nU] at hle;obtain⟨v2,S,eN,ej,bC⟩:=ahv ag.d aI aZ r A.d.size;rw[<-nU,<-nN] at ej;have ah:eB fI S:=A.d.grown bC A.d.size (fun k e=>(ag.d.lt k e).1);obtain⟨eL,rc,tP⟩:=cG ag.d;subst tP;obtain⟨aC,bA,rfl⟩:=cG ej;rw[he] at eN;have gJ:=u eN;have M3:=u ej;have gS:=u ah;have q9:IntKind.i64.wrap ((j:Int)+1)=(j:Int)+1:=mC;have ch:=u ae;clear he nU nN hle ae au aI aZ eN ej ah bC;generalize a1[j].2.1=N at *;generalize tF:jR (a1.take (j+1))=Dr at *;have M4:=u tF;clear tF;generalize jR (a1.take j)=T at *
    go_wp2_with (at_builtin;refine Lib.wpList_append_run _ rfl _ _ _ _ rfl _ _ rfl rfl _ _ (gJ.d _) ?_);have ae:=ch.d;go_roundg (a1.length-j);case measure=>omega
    case rel=>exact⟨j+1,r,by go_num,u (by rw[M4.d];exact M3.d),gS,r⟩
   ·have eZ:j=a1.length:=r;subst eZ;have cL:(a1.length:Int)<=(a1.length:Int):=r;have bj:Hid (wr.ownsRow fI.heap.size 40 2 _ (jR a1) (sO a1)):=u (by have:=ag.d;rw[bK.d.1,bK.d.2] at this;exact this);clear ae;go_wp2_with fail;go_ret;exact⟨_,rfl,bj.d,A.d⟩
def UR(w:World)(x:Value)(C:Nat×Bool):Prop:=∀w',eB w w'->ey 110 #[x] w' (gU w' (.tuple #[q (C.1:Int),.bool C.2]))
def mY(w:World):List Value->List (Nat×Bool)->Prop
 | [],[]=>True
 | v::vs,C::rs=>UR w v C/\mY w vs rs
 | _,_=>False
def mY.len{w:World}:∀{xs:List Value} {rs:List (Nat×Bool)},mY w xs rs->xs.length=rs.length
 | [],[],_=>rfl
 | _::_,_::_,h=>by simp[mY.len h.2]
def mY.get{w:World}:∀{xs:List Value} {rs:List (Nat×Bool)},mY w xs rs->∀(j:Nat) (h1:j<xs.length) (H:j<rs.length),UR w xs[j] rs[j]
 | [],[],_,j,h1,_=>absurd h1 (fp _)
 | _::_,_::_,h,0,_,_=>h.1
 | _::_,_::_,h,j+1,a,b=>mY.get h.2 j (by simpa using a) (by simpa using b)
def mY.later{w J:World}(A:eB w J):∀{xs:List Value} {rs:List (Nat×Bool)},mY w xs rs->mY J xs rs
 | [],[],_=>trivial
 | _::_,_::_,h=>⟨fun w' bg=>h.1 w' (A.trans (bg.mono A.size)),mY.later A h.2⟩
def mY.app{w:World}:∀{xs ys:List Value} {bs cs:List (Nat×Bool)},mY w xs bs->mY w ys cs->mY w (xs++ys) (bs++cs)
 | [],_,[],_,_,H=>H
 | _::_,_,_::_,_,h,H=>⟨h.1,mY.app h.2 H⟩
def sT(pW:Nat)(k pi:Nat)(ks:List Nat)(pX:Bool):Nat×Bool:=if k=1 then (pW,true) else if k=2 then (pi,true) else if k=10\/k=11 then (ks.headD 0,true) else if k=4\/k=5\/k=6\/k=9 then (1,!ek ks 2) else if k=16\/k=17\/k=18 then (0,!ek ks 2||!ek ks 1) else if k=15 then (0,pX) else (1,true)
def Im(rs:List (Nat×Bool))(j:Nat):Prop:=∀i (h:i<rs.length),i<j->rs[i].2=true
def ahV(ks:List Nat)(k:Nat):oj (ks++[k])=oj ks++[q (k:Int)]:=by simp[oj]
def ahW(b k:Nat)(c1 c2 gp fO:Value)(pi pW:Nat)(Nk:Int)(Bh:k=1->Nk=(pW:Int))(p0 p1:Value)(co rS:Value)(vs:List Value)(rs:List (Nat×Bool))(pX:Bool)(cm:Nat×Bool)(b1:cm=if rs.all (·.2) then sT pW k pi (rs.map (·.1)) pX else (0,false))(w:World)(bZ:1<=k)(asi:k<=19)(A:w.heap[b]?=some (.cells #[q (k:Int),c1,c2,q (pi:Int),gp,fO,co,rS,p0,p1,q Nk] 247 (0,0)))(an:eK w co vs)(cq:mY w vs rs)(X:vs.length<=2)(Cd:k=10\/k=11->1<=vs.length)(ae:k=15->(∃a,rS=.pointer (some a))/\∀w',eB w w'->ey 68 #[rS] w' (gU w' (.bool pX))):ey 110 #[M b] w (gU w (.tuple #[q (cm.1:Int),.bool cm.2])):=by
 have US:=u Bh;clear Bh;have bc:=(br A).1;have ry:=u A;have d6:=Z A (i:=6) rfl;obtain⟨a0,bk,rfl⟩:=cG an;have e9:=u an;have mG:=u cq;have fk:=u cq.len;have ch:=u ae;have UT:=u Cd;have cK:=u b1;clear A an cq ae Cd b1;go_enter func110,ntmps110;go_upto_region 3 with fail;go_loopg [4,14] (vs.length+1) (fun U bp i wr=>∃j:Nat,j<=vs.length/\i=q (j:Int)/\Hid (Im rs j)/\eB w wr/\Hid (wr.ownsRow w.heap.size 110 1 bp j (oj ((rs.take j).map (·.1))))/\vs.length-j<U);case atStart=>exact⟨0,bu,rfl,u (fun i _ hi=>absurd hi (fp _)),Below.refl _ _,u (World.ownsRow_nil _ _ _ _),r⟩
 case round=>
  obtain⟨j,aS,rfl,gK,eG,EY,ae⟩:=hrel;by_cases aD:j<vs.length
  ·have cL:(j:Int)<(vs.length:Int):=r;have wP:j<rs.length:=by have:=fk.d;omega
   obtain⟨dM,cJ,bo,Nl⟩:=(pS e9.d eG).cell j aD;obtain⟨rfl,rfl⟩:a0=some ⟨dM,0,none⟩/\bk=cJ:=by injection bo with Y am bm;exact⟨Y,bm⟩
   have fr:IntKind.i64.wrap ((j:Int)+1)=(j:Int)+1:=mC;have Nm:=u ae;have aN:=u (mG.d.get j aD wP wr eG);have bn:Hid (∀C,rs[j]=C->(C.2=true->Im rs (j+1))/\(C.2=false->rs.all (·.2)=false)/\(rs.take (j+1)).map (·.1)=(rs.take j).map (·.1)++[C.1]):=u (fun C ag=>by
    refine⟨fun e a ak cf=>?_,fun e=>?_,?_⟩
    ·by_cases Y:a=j
     ·subst Y;rw[ag];exact e
     ·exact gK.d a ak r
    ·rw[List.all_eq_false];exact⟨_,ec wP,by rw[ag,e];decide⟩
    ·rw[jD wP,List.map_append,ag];rfl)
   generalize rs[j]=EZ at aN bn;have eS:=u (bn.d EZ rfl);obtain⟨UU,Nn⟩:=EZ;generalize vs[j]=x at *;clear bn gK ae bo;cases Nn
   ·have bj:=u (eS.d.2.1 rfl);clear eS;go_wp2_with (go_at_call 110;refine aN.d.mono ?_;rintro e S ⟨rfl,ah⟩);have Y:cm=(0,false):=by rw[cK.d,bj.d];rfl
    refine bodyPost_ret (v:=.tuple #[q 0,.bool false]) (by simp[results,results110,go_sem]) rfl ⟨by rw[Y];rfl,eG.trans (ah.mono eG.size)⟩
   ·have bj:=u (eS.d.1 rfl);have dy:=u (eS.d.2.2);clear eS;go_upto_region 8 with(go_at_call 110;refine aN.d.mono ?_;rintro e S ⟨rfl,ah⟩);have lW:=eG.trans (ah.mono eG.size);obtain⟨v5,bh,qA,jI,fh,-⟩:=ug underlying249 aha rfl K K (ee EY.d ah) #[q (UU:Int)] rfl (by simp[Value.oneCell']) r lW.size;have nx:eB w bh:=(lW.alloc lW.size _).grown fh (by rw[cc];have:=lW.size;omega) (fun k e=>(EY.d.lt k e).1);have No:=u jI;clear jI EY aN;go_wp2_with (at_builtin;refine Lib.wpList_append_run _ rfl _ _ _ _ rfl _ _ rfl rfl _ _ (qA _) ?_);have ae:=Nm.d;go_roundg (vs.length-j);case measure=>omega
    case rel=>exact⟨j+1,r,by go_num,bj,nx,u (by rw[dy.d,ahV];exact No.d),r⟩
  ·have eZ:j=vs.length:=r;have cq:rs.all (·.2)=true:=by rw[List.all_eq_true];intro C ag;obtain⟨i,hi,rfl⟩:=List.mem_iff_getElem.1 ag;exact gK.d i hi (by have:=fk.d;omega)
   have cL:(vs.length:Int)<=(j:Int):=r;have UV:yl wr u4 (rs.map (·.1)):=by have lq:=EY.d;rw[List.take_of_length_le (by have:=fk.d;omega)] at lq;have b5:=ei bu lq;unfold yl;rw[cZ,<-fk.d,<-eZ];exact b5
   have jl:(rs.map (·.1)).length=vs.length:=by rw[cZ];exact fk.d.symm
   have gJ:Hid (cm=sT pW k pi (rs.map (·.1)) pX):=u (by rw[cK.d,cq];rfl);clear cK;have fb:=u UV;have yo:=u jl;have ly:wr.heap[b]?=some (.cells #[q (k:Int),c1,c2,q (pi:Int),gp,fO,.slice a0 vs.length bk,rS,p0,p1,q Nk] 247 (0,0)):=(eG.block b bc).trans ry.d;have f0:=Z ly (i:=0) rfl;have f3:=Z ly (i:=3) rfl;have f7:=Z ly (i:=7) rfl;have f10:=Z ly (i:=10) rfl;clear gK EY UV jl ae cq mG e9 ly d6 fk ry;generalize rs.map (·.1)=ks at *;have tn:ks.length<=100:=by have:=yo.d;omega
   have fG:=u (Uk u4 ks 2 wr fb.d tn);have gu:=u (Uk u4 ks 1 wr fb.d tn);rcases(by omega:k=1\/k=2\/k=3\/k=4\/k=5\/k=6\/k=7\/k=8\/k=9\/k=10\/k=11\/k=12\/k=13\/k=14\/k=15\/k=16\/k=17\/k=18\/k=19) with rfl | rfl | rfl | rfl | rfl | rfl | rfl | rfl | rfl | rfl | rfl | rfl | rfl | rfl | rfl | rfl | rfl | rfl | rfl
   ·obtain rfl:=US.d rfl;clear US;go_wp2_with fail;refine bodyPost_ret (v:=.tuple #[q (pW:Int),.bool true]) (by simp[results,results110,go_sem]) rfl ⟨by rw[gJ.d];rfl,eG⟩
   ·go_wp2_with fail;refine bodyPost_ret (v:=.tuple #[q (pi:Int),.bool true]) (by simp[results,results110,go_sem]) rfl ⟨by rw[gJ.d];rfl,eG⟩
   ·go_wp2_with fail;refine bodyPost_ret (v:=.tuple #[q 1,.bool true]) (by simp[results,results110,go_sem]) rfl ⟨by rw[gJ.d];rfl,eG⟩
   ·have cf:sT pW 4 pi ks pX=(1,!ek ks 2):=rfl;generalize ek ks 2=cA at *;clear gu fb;go_wp2_with (go_at_call 158;refine fG.d.mono ?_;rintro e S ⟨rfl,rfl⟩);refine bodyPost_ret (v:=.tuple #[q 1,.bool (!cA)]) (by simp[results,results110,go_sem]) rfl ⟨by rw[gJ.d,cf];rfl,eG⟩
   ·have cf:sT pW 5 pi ks pX=(1,!ek ks 2):=rfl;generalize ek ks 2=cA at *;clear gu fb;go_wp2_with (go_at_call 158;refine fG.d.mono ?_;rintro e S ⟨rfl,rfl⟩);refine bodyPost_ret (v:=.tuple #[q 1,.bool (!cA)]) (by simp[results,results110,go_sem]) rfl ⟨by rw[gJ.d,cf];rfl,eG⟩
   ·have cf:sT pW 6 pi ks pX=(1,!ek ks 2):=rfl;generalize ek ks 2=cA at *;clear gu fb;go_wp2_with (go_at_call 158;refine fG.d.mono ?_;rintro e S ⟨rfl,rfl⟩);refine bodyPost_ret (v:=.tuple #[q 1,.bool (!cA)]) (by simp[results,results110,go_sem]) rfl ⟨by rw[gJ.d,cf];rfl,eG⟩
   ·go_wp2_with fail;refine bodyPost_ret (v:=.tuple #[q 1,.bool true]) (by simp[results,results110,go_sem]) rfl ⟨by rw[gJ.d];rfl,eG⟩
   ·go_wp2_with fail;refine bodyPost_ret (v:=.tuple #[q 1,.bool true]) (by simp[results,results110,go_sem]) rfl ⟨by rw[gJ.d];rfl,eG⟩
   ·have cf:sT pW 9 pi ks pX=(1,!ek ks 2):=rfl;generalize ek ks 2=cA at *;clear gu fb;go_wp2_with (go_at_call 158;refine fG.d.mono ?_;rintro e S ⟨rfl,rfl⟩);refine bodyPost_ret (v:=.tuple #[q 1,.bool (!cA)]) (by simp[results,results110,go_sem]) rfl ⟨by rw[gJ.d,cf];rfl,eG⟩
   ·have aw:0<ks.length:=by have:=yo.d;have:=UT.d K;omega
    obtain⟨g9,Np,rfl,pY⟩:=fb.d.cell 0 aw;have cf:sT pW 10 pi ks pX=(ks[0],true):=by
     match ks,aw with
     | a::C,_=>rfl
    have xy:(0:Int)<(ks.length:Int):=r;generalize ks[0]=Nq at *;clear fG gu fb;go_wp2_with fail;refine bodyPost_ret (v:=.tuple #[q (Nq:Int),.bool true]) (by simp[results,results110,go_sem]) rfl ⟨by rw[gJ.d,cf],eG⟩
   ·have aw:0<ks.length:=by have:=yo.d;have:=UT.d K;omega
    obtain⟨g9,Np,rfl,pY⟩:=fb.d.cell 0 aw;have cf:sT pW 11 pi ks pX=(ks[0],true):=by
     match ks,aw with
     | a::C,_=>rfl
    have xy:(0:Int)<(ks.length:Int):=r;generalize ks[0]=Nq at *;clear fG gu fb;go_wp2_with fail;refine bodyPost_ret (v:=.tuple #[q (Nq:Int),.bool true]) (by simp[results,results110,go_sem]) rfl ⟨by rw[gJ.d,cf],eG⟩
   ·go_wp2_with fail;refine bodyPost_ret (v:=.tuple #[q 1,.bool true]) (by simp[results,results110,go_sem]) rfl ⟨by rw[gJ.d];rfl,eG⟩
   ·go_wp2_with fail;refine bodyPost_ret (v:=.tuple #[q 1,.bool true]) (by simp[results,results110,go_sem]) rfl ⟨by rw[gJ.d];rfl,eG⟩
   ·go_wp2_with fail;refine bodyPost_ret (v:=.tuple #[q 1,.bool true]) (by simp[results,results110,go_sem]) rfl ⟨by rw[gJ.d];rfl,eG⟩
   ·obtain⟨⟨BS,rfl⟩,UW⟩:=ch.d rfl;have ahX:=u (UW wr eG);clear fG gu fb UW ch;go_wp2_with (go_at_call 68;refine ahX.d.mono ?_;rintro e S ⟨rfl,ah⟩);refine bodyPost_ret (v:=.tuple #[q 0,.bool pX]) (by simp[results,results110,go_sem]) rfl ⟨by rw[gJ.d];rfl,eG.trans (ah.mono eG.size)⟩
   ·have cf:sT pW 16 pi ks pX=(0,!ek ks 2||!ek ks 1):=rfl;generalize ek ks 2=cA at *;generalize ek ks 1=cX at *;clear fb;cases cA
    ·go_wp2_with (go_at_call 158;refine fG.d.mono ?_;rintro e S ⟨rfl,rfl⟩);refine bodyPost_ret (v:=.tuple #[q 0,.bool true]) (by simp[results,results110,go_sem]) rfl ⟨by rw[gJ.d,cf];rfl,eG⟩
    ·go_wp2_with (first | (go_at_call 158;refine qv.mono ?_;rintro e aA ⟨rfl,rfl⟩) | (go_at_call 158;refine fG.d.mono ?_;rintro e S ⟨rfl,rfl⟩;have qv:=gu.d));refine bodyPost_ret (v:=.tuple #[q 0,.bool (!cX)]) (by simp[results,results110,go_sem]) rfl ⟨by rw[gJ.d,cf];rfl,eG⟩
   ·have cf:sT pW 17 pi ks pX=(0,!ek ks 2||!ek ks 1):=rfl;generalize ek ks 2=cA at *;generalize ek ks 1=cX at *;clear fb;cases cA
    ·go_wp2_with (go_at_call 158;refine fG.d.mono ?_;rintro e S ⟨rfl,rfl⟩);refine bodyPost_ret (v:=.tuple #[q 0,.bool true]) (by simp[results,results110,go_sem]) rfl ⟨by rw[gJ.d,cf];rfl,eG⟩
    ·go_wp2_with (first | (go_at_call 158;refine qv.mono ?_;rintro e aA ⟨rfl,rfl⟩) | (go_at_call 158;refine fG.d.mono ?_;rintro e S ⟨rfl,rfl⟩;have qv:=gu.d));refine bodyPost_ret (v:=.tuple #[q 0,.bool (!cX)]) (by simp[results,results110,go_sem]) rfl ⟨by rw[gJ.d,cf];rfl,eG⟩
   ·have cf:sT pW 18 pi ks pX=(0,!ek ks 2||!ek ks 1):=rfl;generalize ek ks 2=cA at *;generalize ek ks 1=cX at *;clear fb;cases cA
    ·go_wp2_with (go_at_call 158;refine fG.d.mono ?_;rintro e S ⟨rfl,rfl⟩);refine bodyPost_ret (v:=.tuple #[q 0,.bool true]) (by simp[results,results110,go_sem]) rfl ⟨by rw[gJ.d,cf];rfl,eG⟩
    ·go_wp2_with (first | (go_at_call 158;refine qv.mono ?_;rintro e aA ⟨rfl,rfl⟩) | (go_at_call 158;refine fG.d.mono ?_;rintro e S ⟨rfl,rfl⟩;have qv:=gu.d));refine bodyPost_ret (v:=.tuple #[q 0,.bool (!cX)]) (by simp[results,results110,go_sem]) rfl ⟨by rw[gJ.d,cf];rfl,eG⟩
   ·go_wp2_with fail;refine bodyPost_ret (v:=.tuple #[q 1,.bool true]) (by simp[results,results110,go_sem]) rfl ⟨by rw[gJ.d];rfl,eG⟩
def ahY(aW:Nat)(xs:List Value)(rs:List (Nat×Bool))(cm:Bool)(b1:cm=rs.all (·.2))(w:World)(BG:xs.length<=100000)(ub:ey 99 #[M aW] w fun e w'=>∃v,e=.returned v/\eK w' v xs/\eB w w')(cq:mY w xs rs):ey 68 #[M aW] w (gU w (.bool cm)):=by
 have bn:=u ub;have mG:=u cq;have fk:=u cq.len;have cK:=u b1;clear ub cq b1;go_enter func68,ntmps68;go_upto_region 2 with(go_at_call 99;refine bn.d.mono ?_;rintro e J ⟨c9,rfl,an,bJ⟩;have Ex:=cG an;obtain⟨b6,zX,rfl⟩:=Ex);have e9:=u an;clear an bn;go_loopg [10] (xs.length+1) (fun U i wr=>∃j:Nat,j<=xs.length/\i=q (j:Int)/\Hid (Im rs j)/\eB J wr/\xs.length-j<U);case atStart=>exact⟨0,bu,rfl,u (fun i _ hi=>absurd hi (fp _)),Below.refl _ _,r⟩
 case round=>
  obtain⟨j,aS,rfl,gK,eG,ae⟩:=hrel;have kp:eB w wr:=bJ.trans (eG.mono bJ.size);by_cases aD:j<xs.length
  ·have cL:(j:Int)<(xs.length:Int):=r;have wP:j<rs.length:=by have:=fk.d;omega
   obtain⟨dM,cJ,bo,Nl⟩:=(pS e9.d eG).cell j aD;obtain⟨rfl,rfl⟩:b6=some ⟨dM,0,none⟩/\zX=cJ:=by injection bo with Y am bm;exact⟨Y,bm⟩
   have fr:IntKind.i64.wrap ((j:Int)+1)=(j:Int)+1:=mC;have Nm:=u ae;have aN:=u (mG.d.get j aD wP wr kp);have bn:Hid (∀C,rs[j]=C->(C.2=true->Im rs (j+1))/\(C.2=false->rs.all (·.2)=false)):=u (fun C ag=>by
    refine⟨fun e a ak cf=>?_,fun e=>?_⟩
    ·by_cases Y:a=j
     ·subst Y;rw[ag];exact e
     ·exact gK.d a ak r
    ·rw[List.all_eq_false];exact⟨_,ec wP,by rw[ag,e];decide⟩)
   generalize rs[j]=EZ at aN bn;have eS:=u (bn.d EZ rfl);obtain⟨UU,Nn⟩:=EZ;generalize xs[j]=x at *;clear bn gK ae bo;cases Nn
   ·have bj:=u (eS.d.2 rfl);clear eS;go_wp2_with (go_at_call 110;refine aN.d.mono ?_;rintro e S ⟨rfl,ah⟩);go_ret;exact⟨by rw[cK.d,bj.d];rfl,kp.trans (ah.mono kp.size)⟩
   ·have bj:=u (eS.d.1 rfl);clear eS;go_wp2_with (go_at_call 110;refine aN.d.mono ?_;rintro e S ⟨rfl,ah⟩);have ae:=Nm.d;go_roundg (xs.length-j);case measure=>omega
    case rel=>exact⟨j+1,r,by go_num,bj,eG.trans (ah.mono eG.size),r⟩
  ·have cq:rs.all (·.2)=true:=by rw[List.all_eq_true];intro C ag;obtain⟨i,hi,rfl⟩:=List.mem_iff_getElem.1 ag;exact gK.d i hi (by have:=fk.d;omega)
   have bj:=u cq;have cL:(xs.length:Int)<=(j:Int):=r;clear gK cq ae;go_wp2_with fail;go_ret;exact⟨by rw[cK.d,bj.d];rfl,kp⟩
def hR(B:List eb):aL->List dC->List (Nat×Bool)
 | .nil,_=>[]
 | .cons h t,I=>hR B h I++hR B t I
 | .node k s n v p U,I=>[if (hR B p I).all (·.2) then sT ((placeOf I s n).getD (0,0,0)).2.2 k v.kind ((hR B p I).map (·.1)) ((hR B U I).all (·.2)) else (0,false)]
 | .query e l w g h,I=>match hd B I l with
  | none=>[]
  | some bU=>hR B e bU++hR B g bU++hR B w bU++hR B h bU
def ahZ(B:List eb)(I:List dC):∀{tag:Nat},aJ t tag->lx t->(hR B t I).length=dH t:=by
 induction t with
 | nil=>intro _ _ _;rfl
 | cons a C cn i2=>
  intro tag R fa;obtain⟨t1,t2,g1,g2,n1⟩:∃t1 t2,aJ a t1/\aJ C t2/\ms a:=by
   rcases R with⟨_,x,y⟩ | ⟨_,x,y⟩ | ⟨_,x,y⟩
   ·exact⟨_,_,x,y,jN x (.inl rfl)⟩
   ·exact⟨_,_,x,y,jN x (.inr (.inr rfl))⟩
   ·exact⟨_,_,x,y,jN x (.inr (.inl rfl))⟩
  have e:(hR B a I).length=1:=by
   cases a with
   | node=>rfl
   | nil=>cases n1
   | cons=>cases n1
   | query=>cases n1
  show(hR B a I++hR B C I).length=dH C+1;rw[cu,e,i2 g2 fa];omega
 | node=>intro _ _ h;cases h
 | query=>intro _ _ h;cases h
def ah0{n:e6}{v:al}{p U:aL}(h:aJ (.node k s n v p U) tag):1<=k/\k<=19:=by obtain⟨_,_,h⟩:=h;omega
def ah1(B:List eb):∀(n:Nat) (t:aL),cp t<=n->∀(tag:Nat) (I:List dC) (w:World) (lo hi:Nat) (vs:List Value),aJ t tag->dK B w t I lo hi vs->(ms t\/lx t->mY w vs (hR B t I))/\(Ey t->∃b,vs=[M b]/\∀w',eB w w'->ey 68 #[M b] w' (gU w' (.bool ((hR B t I).all (·.2))))):=by
 intro n;induction n with
 | zero=>
  intro t hs tag I w lo hi vs R aj;cases t with
  | nil=>obtain⟨-,rfl⟩:=aj;exact⟨fun _=>trivial,(fun h=>by cases h)⟩
  | cons a C=>simp[cp] at hs
  | node=>simp[cp] at hs
  | query=>simp[cp] at hs
 | succ n aH=>
  intro t ff tag I w lo hi vs R aj;cases t with
  | nil=>obtain⟨-,rfl⟩:=aj;exact⟨fun _=>trivial,(fun h=>by cases h)⟩
  | cons a C=>
   refine⟨fun fa=>?_,(fun h=>by cases h)⟩;have fa:lx C:=by rcases fa with h | h;cases h;exact h
   obtain⟨m,v,rs,rfl,h1,H⟩:=aj;have MN:cp (.cons a C)=cp a+cp C+1:=rfl;obtain⟨t1,t2,g1,g2,n1⟩:∃t1 t2,aJ a t1/\aJ C t2/\ms a:=by
    rcases R with⟨_,x,y⟩ | ⟨_,x,y⟩ | ⟨_,x,y⟩
    ·exact⟨_,_,x,y,jN x (.inl rfl)⟩
    ·exact⟨_,_,x,y,jN x (.inr (.inr rfl))⟩
    ·exact⟨_,_,x,y,jN x (.inr (.inl rfl))⟩
   exact mY.app ((aH a r t1 I w lo m [v] g1 h1).1 (.inl n1)) ((aH C r t2 I w m hi rs g2 H).1 (.inr fa))
  | node k s dQ v p U=>
   refine⟨fun _=>?_,(fun h=>by cases h)⟩;have MN:cp (.node k s dQ v p U)=cp p+cp U+1:=rfl;obtain⟨fa,nu,vh,mw,-⟩:=EI R;obtain⟨aI,ah2⟩:=ah0 R;obtain⟨b,l1,m,h1,co,xs,qs,p0,p1,p2,rfl,-,A,ag,mn,H,ab⟩:=aj;refine⟨fun w' bg=>?_,trivial⟩;have bc:=(br A).1;have ah:=(bg.block b bc).trans A;have cr:=(aH p r vh I w l1 m xs mw H).1 (.inr fa);have b7:xs.length=dH p:=by rw[cr.len,ahZ B I mw fa]
   have Cd:k=10\/k=11->1<=xs.length:=fun h=>by obtain⟨_,X,_⟩:=R;rw[b7,X];rcases h with rfl | rfl<;>decide
   have ae:k=15->(∃a,jj qs=.pointer (some a))/\∀bW,eB w' bW->ey 68 #[jj qs] bW (gU bW (.bool ((hR B U I).all (·.2)))):=fun HY=>by
    obtain⟨_,_,aa⟩:=R;have mj:aJ U 2:=by
     rcases aa with⟨aa,_⟩ | ⟨_,_,aa,_⟩ | ⟨_,_,_,aa⟩
     ·omega
     ·omega
     ·exact aa
    have ik:Ey U:=by
     cases U with
     | nil=>simp[aJ] at mj
     | cons=>simp[aJ] at mj
     | node=>simp[aJ] at mj
     | query=>trivial
    obtain⟨aW,rfl,bi⟩:=(aH U r 2 I w m h1 qs mj ab).2 ik;exact⟨⟨_,rfl⟩,fun bW cg=>bi bW (bg.trans (cg.mono bg.size))⟩
   refine ahW b k _ _ _ _ v.kind (((placeOf I s dQ).getD (0,0,0)).2.2) p2 (fun Y=>?_) _ _ co (jj qs) xs (hR B p I) ((hR B U I).all (·.2)) _ rfl w' aI ah2 ah (ei bu (ee ag bg)) (cr.later bg) r Cd ae;obtain⟨pp,n2,-,-,bm⟩:=mn Y;rw[n2];exact bm
  | query e V wh g h=>
   refine⟨(fun aa=>by rcases aa with h | h<;>cases h),fun _=>?_⟩;obtain⟨nN,ge,TM,TN,TO,mU,il,TP,jO⟩:=R;have MN:cp (.query e V wh g h)=cp e+cp wh+cp g+cp h+1:=rfl;obtain⟨bU,b,l1,m1,m2,m3,h1,ev,sv,gv,es,ws,gs,hs,rfl,hle,ak,-,A,cX,cA,AV,hx,dL,jk,jM⟩:=aj;refine⟨b,rfl,fun w' bg=>?_⟩;have bc:=(br A).1;obtain⟨jP,BX,yi,BY,zZ,MA,MB,TR⟩:=vf ge (.inl rfl) hx.is;obtain⟨j8,TS,BZ,TT,MC,TU,TV,EC⟩:=EB mU dL.is;obtain⟨j9,yj,rM,HM,ED,TW,TX,EE⟩:=vf il (.inr (.inl rfl)) jk.is;obtain⟨kb,nr,re,z1,rN,z6,TY,z7⟩:=EB jO jM.is;have EF:∀y∈es,y.oneCell'=true:=by rw[<-BX];exact EA BY (fun x aa=>(zZ x aa).1)
   have MD:∀y∈gs,y.oneCell'=true:=by rw[<-yj];exact EA HM (fun x aa=>(ED x aa).1)
   have agk:ws.length<=1:=by rcases EC with⟨_,rfl⟩ | ⟨_,_,rfl⟩<;>simp
   have agl:hs.length<=1:=by rcases z7 with⟨_,rfl⟩ | ⟨_,_,rfl⟩<;>simp
   have cS:=Lp b ev sv gv _ _ es gs ws hs w' ((bg.block b bc).trans A) (pS (ei bu cX) bg) (pS (ei bu AV) bg) EF MD r r EC z7;have ah3:ms wh\/lx wh:=by
    cases wh with
    | nil=>exact .inr trivial
    | cons=>simp[aJ] at mU
    | node=>exact .inl trivial
    | query=>simp[aJ] at mU
   have ah4:ms h\/lx h:=by
    cases h with
    | nil=>exact .inr trivial
    | cons=>simp[aJ] at jO
    | node=>exact .inl trivial
    | query=>simp[aJ] at jO
   have Ac:=(aH e r 3 bU w l1 m1 es ge hx).1 (.inr (qI ge (.inl rfl)));have EP:=(aH wh r 4 bU w m1 m2 ws mU dL).1 ah3;have MP:=(aH g r 5 bU w m2 m3 gs il jk).1 (.inr (qI il (.inr (.inl rfl))));have Ad:=(aH h r 4 bU w m3 h1 hs jO jM).1 ah4;have bi:hR B (.query e V wh g h) I=hR B e bU++hR B g bU++hR B wh bU++hR B h bU:=by rw[hR,ak]
   rw[bi];exact ahY b (es++gs++ws++hs) _ _ rfl w' (by simp only[cu];omega) cS ((((Ac.app MP).app EP).app Ad).later bg)
def pj(B:List eb)(t:aL):Nat:=if eh B [] t then (if h6 t then 4 else if (hR B t []).all (·.2) then 0 else 5) else 3
def ah5(B:List eb)(t:aL)(aW lo hi:Nat)(aE:Value)(w:World)(R:aJ t 2)(iU:df w lo hi t [M aW])(au:mu w aE B)(bb:dep t<=20000):ey 39 #[M aW,aE] w fun e w'=>e=.returned (q (pj B t:Int))/\eu w.heap.size lo hi w w'/\(pj B t=0->dK B w' t [] lo hi [M aW]):=by
 have ik:Ey t:=by
  cases t with
  | nil=>simp[aJ] at R
  | cons=>simp[aJ] at R
  | node=>simp[aJ] at R
  | query=>trivial
 obtain⟨bt,sG,rfl⟩:∃bt sG,aE=.slice bt B.length sG:=by
  rcases au.1.2 with⟨rfl,aw⟩ | ⟨x,af,ay,e,_⟩
  ·rw[cZ] at aw;exact⟨_,_,by rw[aw]⟩
  ·rw[cZ] at e;exact⟨_,_,e⟩
 have bn:Hid (∀J,eB w J->J.heap[w.heap.size]?=some (.cells #[.slice bt B.length sG,.slice none 0 0] 151 (0,0))->ey 66 #[M w.heap.size,M aW] J (wF B (.slice bt B.length sG) w.heap.size [] lo hi J t [M aW])):=u (fun J A fE=>by
  have ah6:i7 J w.heap.size (.slice bt B.length sG) []:=⟨none,0,fE,World.ownsRow_nil _ _ _ _,by simp⟩;exact(ago B _ w.heap.size (cp t) t ap 2 aW lo hi [] J R (iU.n0 (eu.belows (nb:=0) (l:=0) (h:=0) A)) ah6 (au.heap A) (by simp only[List.length_nil];omega)).2 ik)
 have gy:Hid (∀S,dK B S t [] lo hi [M aW]->ey 67 #[M aW] S (gU S (.bool (!h6 t)))):=u (fun S aj=>agW B (cp t) t ap [] S lo hi aW R aj S (Below.refl _ _));have dy:Hid (∀S,dK B S t [] lo hi [M aW]->ey 68 #[M aW] S (gU S (.bool ((hR B t []).all (·.2))))):=u (fun S aj=>by
  obtain⟨b,e,h⟩:=(ah1 B (cp t) t ap 2 [] S lo hi _ R aj).2 ik;injection e with e _;rw[e];exact h S (Below.refl _ _))
 have bK:Hid (pj B t=if eh B [] t then (if h6 t then 4 else if (hR B t []).all (·.2) then 0 else 5) else 3):=u rfl;clear R iU au ik;go_enter func39,ntmps39;go_upto_region 2 with fail;have iD:eB w (w.alloc (.cells #[.slice bt B.length sG,.slice none 0 0] 151)):=cT;have aN:=u (bn.d _ iD (bH w _));have my:=u iD;clear bn iD;generalize w.alloc (.cells #[.slice bt B.length sG,.slice none 0 0] 151)=W at *;have fG:Hid (ey 66 #[M w.heap.size,M aW] W fun e J=>e=.returned (.bool (eh B [] t))/\eu w.heap.size lo hi w J/\(eh B [] t=true->dK B J t [] lo hi [M aW])):=u (aN.d.mono fun e J aj=>⟨aj.1,(eu.belows my.d).trans aj.2.1,fun h=>(aj.2.2 h).2⟩);clear aN my;generalize cr:w.heap.size=aB at *;have eo:=u cr;clear cr;cases ar:eh B [] t with
 | false=>rw[ar] at fG bK;clear ar;go_wp2_with (go_at_call 66;refine fG.d.mono ?_;rintro e J ⟨rfl,hm,_⟩);go_ret;have hA2:=eo.d;subst hA2;exact⟨by rw[bK.d];rfl,hm,fun h=>by rw[bK.d] at h;cases h⟩
 | true=>
  rw[ar] at fG bK;clear ar;cases A:h6 t with
  | true=>rw[A] at gy bK;clear A;go_wp2_with (first | (go_at_call 67;refine(gy.d _ aj).mono ?_;rintro e S ⟨rfl,ah⟩) | (go_at_call 66;refine fG.d.mono ?_;rintro e J ⟨rfl,hm,aj⟩;replace aj:=aj rfl));go_ret;have hA2:=eo.d;subst hA2;exact⟨by rw[bK.d];rfl,hm.trans (eu.belows ah),fun h=>by rw[bK.d] at h;cases h⟩
  | false=>
   rw[A] at gy bK;clear A;cases au:(hR B t []).all (·.2) with
   | true=>rw[au] at dy bK;clear au;go_wp2_with (first | (go_at_call 68;refine(dy.d _ (aj.below ah)).mono ?_;rintro e aA ⟨rfl,cg⟩) | (go_at_call 67;refine(gy.d _ aj).mono ?_;rintro e S ⟨rfl,ah⟩) | (go_at_call 66;refine fG.d.mono ?_;rintro e J ⟨rfl,hm,aj⟩;replace aj:=aj rfl));go_ret;have hA2:=eo.d;subst hA2;exact⟨by rw[bK.d];rfl,(hm.trans (eu.belows ah)).trans (eu.belows cg),fun _=>(aj.below ah).below cg⟩
   | false=>rw[au] at dy bK;clear au;go_wp2_with (first | (go_at_call 68;refine(dy.d _ (aj.below ah)).mono ?_;rintro e aA ⟨rfl,cg⟩) | (go_at_call 67;refine(gy.d _ aj).mono ?_;rintro e S ⟨rfl,ah⟩) | (go_at_call 66;refine fG.d.mono ?_;rintro e J ⟨rfl,hm,aj⟩;replace aj:=aj rfl));go_ret;have hA2:=eo.d;subst hA2;exact⟨by rw[bK.d];rfl,(hm.trans (eu.belows ah)).trans (eu.belows cg),fun h=>by rw[bK.d] at h;cases h⟩
def jS(wb:Nat)(G:Option Nat)(k:Nat):Prop:=k≠wb/\G≠some k
structure aR (wb:Nat) (G aF:Option Nat) (w w':World):Prop where
 os:w'.os=w.os
 tape:w'.tape=w.tape
 output:w'.output=w.output
 size:w.heap.size<=w'.heap.size
 block:∀k,k<w.heap.size->jS wb G k->w'.heap[k]?=w.heap[k]?
 next:aF=G\/∀g,aF=some g->w.heap.size<=g
 rT:∀cs t,w.heap[wb]?=some (.cells cs t (0,0))->∃fU,w'.heap[wb]?=some (.cells fU t (0,0))/\fU[0]?=cs[0]?
def aR.refl(wb:Nat)(G:Option Nat)(w:World):aR wb G G w w:=⟨rfl,rfl,rfl,ap,fun _ _ _=>rfl,.inl rfl,fun cs _ e=>⟨cs,e,rfl⟩⟩
def aR.trans{wb:Nat}{G cP gM:Option Nat}{w J S:World}(_:wb<w.heap.size)(h:aR wb G cP w J)(H:aR wb cP gM J S):aR wb G gM w S:=by
 have kc:∀k,k<w.heap.size->jS wb G k->jS wb cP k:=fun k hk ag=>⟨ag.1,fun e=>by
  rcases h.next with Y | Y
  ·exact ag.2 (Y▸e)
  ·have:=Y k e;omega⟩
 refine⟨H.os.trans h.os,H.tape.trans h.tape,H.output.trans h.output,bX h.size H.size,fun k hk ag=>(H.block k (e0 hk h.size) (kc k hk ag)).trans (h.block k hk ag),?_,fun cs t e=>by
  obtain⟨c1,Y,b3⟩:=h.rT cs t e;obtain⟨c2,am,z2⟩:=H.rT c1 t Y;exact⟨c2,am,z2.trans b3⟩⟩
 rcases H.next with e | e
 ·rw[e];exact h.next
 ·exact .inr fun g R=>bX h.size (e g R)
def aR.n3(h:aR wb G aF w w'):dj (jS wb G) (jS wb aF) w w':=fun k hk ag=>⟨⟨ag.1,fun e=>by
 rcases h.next with Y | Y
 ·exact ag.2 (Y▸e)
 ·have:=Y k e;omega⟩,h.block k hk ag⟩
def aR.of(h:eB w w'):aR wb G G w w':=⟨h.os,h.tape,h.output,h.size,fun k hk _=>h.block k hk,.inl rfl,fun cs _ e=>⟨cs,(h.block wb (br e).1).trans e,rfl⟩⟩
def aR.below(h:aR wb G aF w J)(A:eB J w'):aR wb G aF w w':=⟨A.os.trans h.os,A.tape.trans h.tape,A.output.trans h.output,bX h.size A.size,fun k hk ag=>(A.block k (e0 hk h.size)).trans (h.block k hk ag),h.next,fun cs t e=>by
 obtain⟨c1,Y,b3⟩:=h.rT cs t e;exact⟨c1,(A.block wb (br Y).1).trans Y,b3⟩⟩
def pZ(F:Nat->Prop)(w:World):List Value->List (je)->Prop
 | [],[]=>True
 | v::C,c::s=>(∃rs,eg F w 115 2 v c.length (cQ rs)/\dk F w rs c)/\pZ F w C s
 | _,_=>False
def pZ.len{F:Nat->Prop}{w:World}:∀{vs:List Value} {l:List (je)},pZ F w vs l->vs.length=l.length
 | [],[],_=>rfl
 | _::_,_::_,h=>by rw[di,di,pZ.len h.2]
 | [],_::_,h=>h.elim
 | _::_,[],h=>h.elim
def pZ.move{F F':Nat->Prop}{w w':World}(m:dj F F' w w'):∀{vs:List Value} {l:List (je)},pZ F w vs l->pZ F' w' vs l
 | [],[],_=>trivial
 | _::_,_::_,h=>⟨by obtain⟨rs,h1,H⟩:=h.1;exact⟨rs,h1.move m,H.move m⟩,pZ.move m h.2⟩
 | [],_::_,h=>h.elim
 | _::_,[],h=>h.elim
def pZ.get{F:Nat->Prop}{w:World}:∀{vs:List Value} {l:List (je)},pZ F w vs l->∀(i:Nat) (h1:i<vs.length) (H:i<l.length),∃rs,eg F w 115 2 vs[i] l[i].length (cQ rs)/\dk F w rs l[i]
 | [],[],_,_,h1,_=>absurd h1 (fp _)
 | _::_,_::_,h,0,_,_=>h.1
 | _::_,_::_,h,i+1,a,b=>pZ.get h.2 i (by simpa using a) (by simpa using b)
 | [],_::_,h,_,_,_=>h.elim
 | _::_,[],h,_,_,_=>h.elim
def pZ.snoc{F:Nat->Prop}{w:World}{v:Value}{c:je}(h1:∃rs,eg F w 115 2 v c.length (cQ rs)/\dk F w rs c):∀{vs:List Value} {l:List (je)},pZ F w vs l->pZ F w (vs++[v]) (l++[c])
 | [],[],_=>⟨h1,trivial⟩
 | _::_,_::_,h=>⟨h.1,pZ.snoc h1 h.2⟩
 | [],_::_,h=>h.elim
 | _::_,[],h=>h.elim
def el(F:Nat->Prop)(w:World)(e:TypeId)(v:Value)(xs:List Value):Prop:=(∃a af,v=.slice a xs.length af)/\∀a n af,v=.slice a n af->(0<xs.length->∃g off ay,a=some ⟨g,off,none⟩/\F g/\w.heap[g]?=some (.cells ay e (0,0))/\∀i (h:i<xs.length),ay[off+i]?=some xs[i])
def el.move{F':Nat->Prop}(h:el F w e v xs)(m:dj F F' w w'):el F' w' e v xs:=by refine⟨h.1,fun a n af hv aw=>?_⟩;obtain⟨g,off,ay,h1,H,ab,aK⟩:=h.2 a n af hv aw;obtain⟨m1,m2⟩:=m g (br ab).1 H;exact⟨g,off,ay,h1,m1,m2.trans ab,aK⟩
def Ce(F:Nat->Prop)(w:World)(v:Value)(aG:List (je)):Prop:=∃vs,el F w 92 v vs/\pZ F w vs aG
def Ce.move{F F':Nat->Prop}{w w':World}{v:Value}{aG:List (je)}(h:Ce F w v aG)(m:dj F F' w w'):Ce F' w' v aG:=by obtain⟨vs,h1,H⟩:=h;exact⟨vs,h1.move m,H.move m⟩
def p3(F:Nat->Prop)(w:World)(aE:Value)(B:List bG):Prop:=∃bs:List Nat,bs.length=B.length/\eg F w 83 1 aE bs.length (rz bs)/\B.length<=1000/\∀i (h:i<bs.length) (H:i<B.length),iW F w bs[i] B[i]
def p3.move{F F':Nat->Prop}{w w':World}{aE:Value}{B:List bG}(h:p3 F w aE B)(m:dj F F' w w'):p3 F' w' aE B:=by obtain⟨bs,h1,H,ab,aK⟩:=h;exact⟨bs,h1,H.move m,ab,fun i a b=>(aK i a b).move m⟩
structure aM (F:Nat->Prop) (w:World) (wb:Nat) (G:Option Nat) (B:List bG) (O:Int) (ao:Bool) (st:az):Prop where
 fH:∀k,F k->k<w.heap.size
 own:∀k,F k->jS wb G k
 at_:∃aE b0 bf cl gc rs,w.heap[wb]?=some (.cells #[aE,q O,b0,.slice bf cl gc,q (st.eP:Int),.bool st.dE] 95 (0,0))/\p3 F w aE B/\
  w.ownsRow 0 115 2 b0 st.ad.length (cQ rs)/\b0.ownBlock=G/\dk F w rs st.ad/\(ao=true->Ce F w (.slice bf cl gc) st.bF)
def aM.lt(h:aM F w wb G B O ao st):wb<w.heap.size:=by obtain⟨aE,b0,bf,cl,gc,rs,h1,_⟩:=h.at_;exact(br h1).1
def aM.mZ(h:aM F w wb G B O ao st):∀g,G=some g->g<w.heap.size/\g≠wb:=by
 obtain⟨aE,b0,bf,cl,gc,rs,h1,_,ab,aK,_⟩:=h.at_;intro g R;rcases ab.2 with⟨rfl,_⟩ | ⟨dM,af,ay,rfl,_,en,_⟩
 ·rw[<-aK] at R;simp[Value.ownBlock] at R
 ·rw[<-aK] at R;obtain rfl:dM=g:=by simpa [Value.ownBlock] using R
  refine⟨(br en).1,?_⟩;rintro rfl;rw[h1] at en;injection en with en;injection en with _ en;cases en
def aR.p4(h:aR wb G aF w w')(hF:∀k,F k->jS wb G k):dj F F w w':=fun k hk av=>⟨av,h.block k hk (hF k av)⟩
def aM.below(h:aM F w wb G B O ao st)(A:eB w w'):aM F w' wb G B O ao st:=by obtain⟨aE,b0,bf,cl,gc,rs,h1,H,ab,aK,cO,cE⟩:=h.at_;have m:dj F F w w':=fun k hk av=>⟨av,A.block k hk⟩;exact⟨fun k hk=>e0 (h.fH k hk) A.size,h.own,aE,b0,bf,cl,gc,rs,(A.block _ (br h1).1).trans h1,H.move m,ee ab A,aK,cO.move m,fun e=>(cE e).move m⟩
def aR.qO{B:List eb}{hi:Nat}{vs:List Value}(hk:aR wb G aF w w')(hw:aM F w wb G bd O ao st)(h:dK B w t I lo hi vs):dK B w' t I lo hi vs:=by
 obtain⟨aE,b0,bf,cl,gc,rs,h1,H,ab,aK,cO,cE⟩:=hw.at_;have key:∀(k:Nat) (cs:Array Value) (m:Nat×Nat) (ne:TypeId),ne≠95->ne≠115->w.heap[k]?=some (.cells cs ne m)->w'.heap[k]?=some (.cells cs ne m):=by
  intro k cs m ne bM b9 e;refine(hk.block k (br e).1 ⟨?_,?_⟩).trans e
  ·rintro rfl;rw[h1] at e;injection e with e;injection e with _ e;exact bM e.symm
  ·rintro rfl;rcases ab.2 with⟨rfl,_⟩ | ⟨g,af,ay,rfl,_,R,_⟩
   ·simp[Value.ownBlock] at aK
   ·obtain rfl:g=k:=by simpa [Value.ownBlock] using aK
    rw[R] at e;injection e with e;injection e with _ e;exact b9 e.symm
 refine h.a8 (fun k cs m e _ _=>key k cs m _ K K e) (fun k cs m ne au e=>key k cs m ne ?_ ?_ e);all_goals rcases au with rfl | rfl | rfl<;>decide
def wQ(wb:Nat)(G:Option Nat)(i:Nat)(x:Value)(hi:i≠0:=by decide):aR wb G G w (w.setCell ⟨wb,i,none⟩ x):=⟨rfl,rfl,rfl,by rw[size_set];exact ap,fun k _ ag=>Below.heap_setCell _ _ _ k (by exact ag.1),.inl rfl,fun cs t e=>⟨cs.setIfInBounds i x,hc e x,by rw[Array.getElem?_setIfInBounds_ne (by exact hi)]⟩⟩
def E0{b:Nat}(h:w.ownsRow 0 e size v n xs)(A:v.ownBlock≠some b)(i:Nat)(x:Value):(w.setCell ⟨b,i,none⟩ x).ownsRow 0 e size v n xs:=(eg.set (F:=fun _=>True) ⟨h,fun _ _=>trivial⟩ A i x).1
def aM.fail(h:aM F w wb G B O ao st):aM F (w.setCell ⟨wb,5,none⟩ (.bool true)) wb G B O ao {st with dE:=true}:=by have R:=h.mZ;obtain⟨aE,b0,bf,cl,gc,rs,h1,H,ab,aK,cO,cE⟩:=h.at_;have m:=(wQ (w:=w) wb G 5 (.bool true)).p4 h.own;exact⟨fun k hk=>by rw[size_set];exact h.fH k hk,h.own,aE,b0,bf,cl,gc,rs,hc h1 _,H.move m,E0 ab (by rw[aK];intro e;exact(R wb e).2 rfl) _ _,aK,cO.move m,fun e=>(cE e).move m⟩
def aM.In(h:aM F w wb G B O ao st):dp w wb 5=some (.bool st.dE)/\w.frozen? ⟨wb,5,none⟩=false:=by obtain⟨aE,b0,bf,cl,gc,rs,h1,_⟩:=h.at_;exact⟨Z h1 (i:=5) rfl,aQ h1⟩
def aM.other(h:aM F w wb G B O ao st)(h1:¬F aB)(H:aB≠wb)(ab:G≠some aB)(i:Nat)(x:Value):aM F (w.setCell ⟨aB,i,none⟩ x) wb G B O ao st:=by obtain⟨aE,b0,bf,cl,gc,rs,aI,aZ,a6,dt,e8,i8⟩:=h.at_;have m:dj F F w (w.setCell ⟨aB,i,none⟩ x):=fun k _ av=>⟨av,Below.heap_setCell _ _ _ k (by show k≠aB;rintro rfl;exact h1 av)⟩;exact⟨fun k hk=>by rw[size_set];exact h.fH k hk,h.own,aE,b0,bf,cl,gc,rs,(Below.heap_setCell _ _ _ wb (by exact Ne.symm H)).trans aI,aZ.move m,E0 a6 (by rw[dt];exact ab) _ _,dt,e8.move m,fun e=>(i8 e).move m⟩
def aR.later(h:aR wb G aF w w')(cr:w.heap.size<=aB)(i:Nat)(x:Value):aR wb G aF w (w'.setCell ⟨aB,i,none⟩ x):=⟨h.os,h.tape,h.output,by rw[size_set];exact h.size,fun k hk ag=>(Below.heap_setCell _ _ _ k (by show k≠aB;omega)).trans (h.block k hk ag),h.next,fun cs t e=>by
 obtain⟨c1,Y,b3⟩:=h.rT cs t e;exact⟨c1,(Below.heap_setCell _ _ _ wb (by show wb≠aB;have:=(br e).1;omega)).trans Y,b3⟩⟩
def aR.drew{wb:Nat}{G aF:Option Nat}{w w':World}(h:aR wb G aF w w'):aR wb G aF w w'.drew:=⟨h.os,h.tape,h.output,h.size,h.block,h.next,h.rT⟩
def aM.drew{F:Nat->Prop}{w:World}{wb:Nat}{G:Option Nat}{B:List bG}{O:Int}{ao:Bool}{st:az}(h:aM F w wb G B O ao st):aM F w.drew wb G B O ao st:=h.below ⟨rfl,rfl,rfl,ap,fun _ _=>rfl⟩
def gO(F:Nat->Prop)(wb:Nat)(G:Option Nat)(B:List bG)(O:Int)(ao:Bool)(v:Value)(st:az)(w:World)(e:Ending)(w':World):Prop:=e=.returned v/\aM F w' wb G B O ao st/\aR wb G G w w'
def ja(wb:Nat)(G:Option Nat)(o:Obj):aR wb G G w (w.alloc o):=aR.of cT
def kd{S:World}(aw:aM F w wb G B O ao fZ)(h:aM F S wb G B O ao st)(hk:aR wb G G w S)(x y z:Value):gO F wb G B O ao v st w (.returned v) (((S.setCell ⟨w.heap.size,0,none⟩ x).setCell ⟨w.heap.size,1,none⟩ y).setCell ⟨w.heap.size,2,none⟩ z):=by
 have bM:¬F w.heap.size:=fun av=>absurd (aw.fH _ av) (Nat.lt_irrefl _);have b9:w.heap.size≠wb:=by have:=aw.lt;omega
 have dm:G≠some w.heap.size:=fun e=>by have:=(aw.mZ _ e).1;omega
 exact⟨rfl,((h.other bM b9 dm _ _).other bM b9 dm _ _).other bM b9 dm _ _,((hk.later ap _ _).later ap _ _).later ap _ _⟩
def bO(s:dC):eO:=⟨s.called,s.bl⟩
def Nr(I:List dC)(m:e6):LZ (I.map bO) m=oB I m:=by
 unfold LZ oB;induction I with
 | nil=>rfl
 | cons a C aH=>rw[List.map_cons,List.findIdx?_cons,List.findIdx?_cons,aH];rfl
def E1(I:List dC)(s n:e6):L0 (I.map bO) s n=placeOf I s n:=by
 unfold L0 placeOf;rw[Nr];cases oB I s with
 | none=>rfl
 | some i=>
  simp only[b2,List.getElem?_map];cases I[i]? with
  | none=>rfl
  | some x=>rfl
def dk.get{F:Nat->Prop}{w:World}:∀{rs:List (Nat×Value)} {l:je},dk F w rs l->∀(i:Nat) (h1:i<rs.length) (H:i<l.length),rs[i].1=l[i].1/\eg F w 112 3 rs[i].2 l[i].2.length (fc l[i].2)
 | [],[],_,_,h1,_=>absurd h1 (fp _)
 | _::_,_::_,h,0,_,_=>h.1
 | _::_,_::_,h,i+1,a,b=>dk.get h.2 i (by simpa using a) (by simpa using b)
 | [],_::_,h,_,_,_=>h.elim
 | _::_,[],h,_,_,_=>h.elim
def io{W:World}{a b c y z:Value}{t:TypeId}(h:W.heap[aB]?=some (.cells #[a,b,c] t (0,0))):(((W.setCell ⟨aB,0,none⟩ x).setCell ⟨aB,1,none⟩ y).setCell ⟨aB,2,none⟩ z).heap[aB]?=some (.cells #[x,y,z] t (0,0)):=hc (hc (hc h x) y) z
def ah7(wb b i j:Nat)(g n af gv m fj:Nat)(x:al)(w:World)(H:dp w wb 2=some (.slice (some ⟨g,0,none⟩) n af))(o5:dp w b 8=some (q (i:Int)))(nw:dp w b 9=some (q (j:Int)))(hi:i<n)(ag:dp w g (i*2+1)=some (.slice (some ⟨gv,0,none⟩) m fj))(aS:j<m)(v0:dp w gv (j*3)=some (q (x.kind:Int)))(v1:dp w gv (j*3+1)=some (q x.num))(v2:dp w gv (j*3+2)=some (.string (a7 x.du)))(l1:wb<w.heap.size)(bT:b<w.heap.size)(xT:g<w.heap.size)(s9:gv<w.heap.size):ey 174 #[M wb,M b] w (gU w (cb x)):=by
 have fM:(i:Int)<(n:Int):=r;have lv:(j:Int)<(m:Int):=r;have bM:¬wb=w.heap.size:=r;have b9:¬b=w.heap.size:=r;have dm:¬g=w.heap.size:=r;have nS:¬gv=w.heap.size:=r;unfold cb;generalize a7 x.du=dB at *;generalize x.num=N at *;generalize x.kind=bV at *;have aO:Below w.heap.size w (w.alloc (.cells #[q 0,q 0,.string ⟨#[]⟩] 112)):=cT;have aT:=bH w (.cells #[q 0,q 0,.string ⟨#[]⟩] 112);have d0:=Z aT (i:=0) rfl;have d1:=Z aT (i:=1) rfl;have d2:=Z aT (i:=2) rfl;have c7:=aQ (i:=0) aT;have Y:=aQ (i:=1) aT;have am:=aQ (i:=2) aT;have aZ:=dr aO H l1;have asj:=dr aO o5 bT;have asl:=dr aO nw bT;have asm:=dr aO ag xT;have m0:=dr aO v0 s9;have m1:=dr aO v1 s9;have m2:=dr aO v2 s9
 have b4:=u aO;have rG:=u aT;clear H o5 nw ag v0 v1 v2 aT aO;go_enter func174,ntmps174;go_upto_region 1 with fail;generalize w.alloc (.cells #[q 0,q 0,.string ⟨#[]⟩] 112)=W at *;generalize cr:w.heap.size=aB at *;have eo:=u cr;clear cr;have q1:(⟨aB,0,none⟩:Addr).block≠wb:=fun e=>bM e.symm;have p1:¬aB=wb:=fun e=>bM e.symm;have p2:¬aB=b:=fun e=>b9 e.symm;have fw:¬aB=g:=fun e=>dm e.symm;have pf:¬aB=gv:=fun e=>nS e.symm;clear q1
 go_region_held3 (fun w'=>w'.cell? ⟨wb,2,none⟩=some (.slice (some ⟨g,0,none⟩) n af)/\w'.cell? ⟨b,8,none⟩=some (q (i:Int))/\w'.cell? ⟨b,9,none⟩=some (q (j:Int))/\w'.cell? ⟨g,i*2+1,none⟩=some (.slice (some ⟨gv,0,none⟩) m fj)/\w'.cell? ⟨gv,j*3,none⟩=some (q (bV:Int))/\w'.cell? ⟨gv,j*3+1,none⟩=some (q N)/\w'.cell? ⟨gv,j*3+2,none⟩=some (.string dB)) (go_keep) (fail);all_goals
  go_wp2_with fail;have aY:=io (x:=q (bV:Int)) (y:=q N) (z:=.string dB) rG.d;have z0:=Z aY (i:=0) rfl;have b3:=Z aY (i:=1) rfl;have z2:=Z aY (i:=2) rfl;refine bodyPost_ret (v:=.agg #[q (bV:Int),q N,.string dB]) (by simp[results,results174,go_sem,z0,b3,z2]) rfl ⟨rfl,?_⟩;rw[eo.d];exact(((b4.d.setCell ap _).setCell ap _).setCell ap _).drew
def jT:Obj:=.cells #[q 0,q 0,.string ⟨#[]⟩] 112
def Ns(w:World):eB w (w.alloc jT):=cT
def Nt(n:Int)(w:World)(aw : -9223372036854775807<=n)(h1:n<=9223372036854775807)(h:aM F w wb G B O ao st):ey 247 #[M wb,q n] w (gO F wb G B O ao (cb (iY n st).1) (iY n st).2 w):=by
 have X:=h.lt;obtain⟨ai,av⟩:=h.In;have ar:¬wb=w.heap.size:=r;have aN:=u (Tu n aw h1);have cx:=u h;have bK:Hid (∀b,decide (1000000000000<max n (-n))=b->iY n st=if b then (al.zero,{st with dE:=true}) else (iX n,st)):=u (fun b A=>by
  unfold iY lY;cases b
  ·rw[if_neg (of_decide_eq_false A)];rfl
  ·rw[if_pos (of_decide_eq_true A)];rfl)
 generalize max n (-n)=ox at *;clear h aw h1;by_cases E2:(1000000000000:Int)<ox
 ·have Y:=bK.d true (ax3 E2);rw[Y];clear Y bK;go_enter func247,ntmps247;go_wp2_with (go_at_call 248;refine(aN.d _).mono ?_;rintro e J ⟨rfl,rfl⟩);refine bodyPost_ret (v:=.agg #[q 0,q 0,.string ⟨#[]⟩]) (by simp[results,results247,go_sem]) rfl ⟨rfl,cx.d.fail.below cT,(wQ wb G 5 _).trans X (ja wb G _)⟩
 ·have Y:=bK.d false (ax2 E2);rw[Y];clear Y bK;have asn:ox<=1000000000000:=r;have dT:=u (Ns w);unfold jT at dT;go_enter func247,ntmps247;go_wp2_with (first | (go_at_call 45;refine(tg _ _).mono ?_;rintro e S ⟨rfl,ah⟩;have aT:S.heap[w.heap.size]?=some (.cells #[q 0,q 0,.string ⟨#[]⟩] 112 (0,0)):=(ah.block _ (by simp)).trans (bH w _);have d0:=Z aT (i:=0) rfl;have d1:=Z aT (i:=1) rfl;have d2:=Z aT (i:=2) rfl;have c7:=aQ (i:=0) aT;have Y:=aQ (i:=1) aT;have am:=aQ (i:=2) aT) | (go_at_call 248;refine(aN.d _).mono ?_;rintro e J ⟨rfl,rfl⟩));have aY:=io (x:=q 1) (y:=q n) (z:=.string ⟨#[]⟩) aT;have z0:=Z aY (i:=0) rfl;have b3:=Z aY (i:=1) rfl;have z2:=Z aY (i:=2) rfl
  have lW:eB w S:=dT.d.trans (ah.mono dT.d.size);refine bodyPost_ret (v:=.agg #[q 1,q n,.string ⟨#[]⟩]) (by simp[results,results247,go_sem,z0,b3,z2]) rfl (kd cx.d (cx.d.below lW) (aR.of lW) _ _ _)
def aR.gg(hk:aR wb G aF w w')(hw:aM F w wb G bd O ao st){cs:Array Value}{m:Nat×Nat}{ne:TypeId}(bM:ne≠95)(b9:ne≠115)(e:w.heap[k]?=some (.cells cs ne m)):w'.heap[k]?=some (.cells cs ne m):=by
 obtain⟨aE,b0,bf,cl,gc,rs,h1,H,ab,aK,cO,cE⟩:=hw.at_;refine(hk.block k (br e).1 ⟨?_,?_⟩).trans e
 ·rintro rfl;rw[h1] at e;injection e with e;injection e with _ e;exact bM e.symm
 ·rintro rfl;rcases ab.2 with⟨rfl,_⟩ | ⟨g,af,ay,rfl,_,R,_⟩
  ·simp[Value.ownBlock] at aK
  ·obtain rfl:g=k:=by simpa [Value.ownBlock] using aK
   rw[R] at e;injection e with e;injection e with _ e;exact b9 e.symm
def aR.l3(hk:aR wb G aF w w')(hw:aM F w wb G bd O ao st)(bM:e≠95)(b9:e≠115)(h:w.ownsRow lo e size v n xs):w'.ownsRow lo e size v n xs:=by
 refine⟨h.1,?_⟩;rcases h.2 with ar | ⟨g,af,ay,rfl,A,en,rest⟩
 ·exact .inl ar
 ·exact .inr ⟨g,af,ay,rfl,A,hk.gg hw bM b9 en,rest⟩
def aR.alloc{wb:Nat}{G aF:Option Nat}{w w':World}(h:aR wb G aF w w')(o:Obj):aR wb G aF w (w'.alloc o):=⟨h.os,h.tape,h.output,bX h.size (by rw[cc];omega),fun k hk ag=>(Below.heap_alloc w' o k (e0 hk h.size)).trans (h.block k hk ag),h.next,fun cs t e=>by
 obtain⟨c1,Y,b3⟩:=h.rT cs t e;exact⟨c1,(Below.heap_alloc w' o wb (br Y).1).trans Y,b3⟩⟩
def aM.alloc{F:Nat->Prop}{w:World}{wb:Nat}{G:Option Nat}{B:List bG}{O:Int}{ao:Bool}{st:az}(h:aM F w wb G B O ao st)(o:Obj):aM F (w.alloc o) wb G B O ao st:=h.below cT
def aR.drewN{wb:Nat}{G aF:Option Nat}{w w':World}(h:aR wb G aF w w')(n:Nat):aR wb G aF w (w'.drewN n):=⟨h.os,h.tape,h.output,h.size,h.block,h.next,h.rT⟩
def aM.drewN{F:Nat->Prop}{w:World}{wb:Nat}{G:Option Nat}{B:List bG}{O:Int}{ao:Bool}{st:az}(h:aM F w wb G B O ao st)(n:Nat):aM F (w.drewN n) wb G B O ao st:=h.below ⟨rfl,rfl,rfl,ap,fun _ _=>rfl⟩
def E3(wb:Nat)(G:Option Nat)(w w':World):Prop:=w.heap.size<=w'.heap.size/\(∀k,k<w.heap.size->¬k=wb->¬G=some k->w'.heap[k]?=w.heap[k]?)
def aR.Io(h:aR wb G aF w w'):E3 wb G w w':=⟨h.size,fun k h1 H ab=>h.block k h1 ⟨H,ab⟩⟩
def p5(F:Nat->Prop)(wb:Nat)(G:Option Nat)(B:List bG)(O:Int)(ao:Bool)(ok:az->Prop)(w:World)(x:Value)(f:az->al×az):Prop:=∀(w':World) (st:az),aR wb G G w w'->aM F w' wb G B O ao st->ok st->ey 116 #[M wb,x] w' (gO F wb G B O ao (cb (f st).1) (f st).2 w')
def p5.later{f:az->al×az}(h:p5 F wb G B O ao ok w x f)(X:wb<w.heap.size)(hk:aR wb G G w J):p5 F wb G B O ao ok J x f:=fun w' st gi=>h w' st (hk.trans X gi)
def yp{co dN bz:Value}(h:eK w co [dN,bz]):∃dY pc,co=.slice (some ⟨dY,0,none⟩) 2 pc/\dp w dY 0=some dN/\dp w dY 1=some bz/\dY<w.heap.size:=by
 obtain⟨g,af,e,bk⟩:=h.cell 0 (by simp);obtain⟨dM,cJ,bo,c1⟩:=h.cell 1 (by simp);rw[e] at bo;injection bo with Y am bm;injection Y with Y;injection Y with Y;subst Y;refine⟨g,af,e,bk,c1,?_⟩;rcases h.2 with⟨_,aw⟩ | ⟨g2,c2,ay,am,_,R,_⟩
 ·cases aw
 ·rw[e] at am;injection am with am;injection am with am;injection am with am;subst am;exact(br R).1
def ah8(b:Nat)(co dN bz:Value)(cs:Array Value)(f0 f1:az->al×az)(w:World)(h:aM F w wb G B O ao st)(gK:ok st)(uk:ok (f0 st).2)(A:w.heap[b]?=some (.cells cs 247 (0,0)))(cE:cs[6]?=some co)(an:eK w co [dN,bz])(kN:p5 F wb G B O ao ok w dN f0)(H1:p5 F wb G B O ao ok w bz f1):ey 246 #[M wb,M b] w (gO F wb G B O ao (.tuple #[q (f0 st).1.num,q (f1 (f0 st).2).1.num,.bool ((decide ((f0 st).1.kind≠0))&&(decide ((f1 (f0 st).2).1.kind≠0)))]) (f1 (f0 st).2).2 w):=by
 obtain⟨dY,pc,rfl,p0,p1,pl⟩:=yp an;have X:=h.lt;have bc:=(br A).1;have jy:=Z A cE;have na:Hid (∀W,aR wb G G w W->aM F W wb G B O ao st->ey 116 #[M wb,dN] W fun e aA=>e=.returned (cb (f0 st).1)/\aM F aA wb G B O ao (f0 st).2/\aR wb G G w aA/\E3 wb G W aA/\Hid (∀h5,aR wb G G w h5->aM F h5 wb G B O ao (f0 st).2->ey 116 #[M wb,bz] h5 fun e bI=>e=.returned (cb (f1 (f0 st).2).1)/\aM F bI wb G B O ao (f1 (f0 st).2).2/\aR wb G G w bI/\E3 wb G h5 bI)):=u (fun W hk hw=>(kN W _ hk hw gK).mono fun e w' aj=>⟨aj.1,aj.2.1,hk.trans X aj.2.2,aj.2.2.Io,u (fun h5 dR q9=>(H1 h5 _ dR q9 uk).mono fun am S go=>⟨go.1,go.2.1,dR.trans X go.2.2,go.2.2.Io⟩)⟩)
 have cW:Hid (∀J,aR wb G G w J->w.heap.size<=J.heap.size/\b<J.heap.size/\dY<J.heap.size/\¬J.heap.size=b/\¬J.heap.size=dY/\¬J.heap.size+1=b/\¬J.heap.size+1=dY/\¬J.heap.size=wb/\¬J.heap.size+1=wb/\¬G=some J.heap.size/\¬G=some (J.heap.size+1)/\dp J b 6=some (.slice (some ⟨dY,0,none⟩) 2 pc)/\dp J dY 0=some dN/\dp J dY 1=some bz):=u (fun J hk=>by
  have:=hk.size;have ag:=hk.l3 h K K an;obtain⟨Nu,Nv,e,k6,q1,_⟩:=yp ag;injection e with Y am bm;injection Y with Y;injection Y with Y;subst Y;exact⟨this,r,r,r,r,r,r,r,r,fun e=>by have:=(h.mZ _ e).1;omega,fun e=>by have:=(h.mZ _ e).1;omega,Z (hk.gg h K K A) cE,k6,q1⟩)
 have ah9:¬b=wb:=by rintro rfl;obtain⟨aE,b0,bf,cl,gc,rs,aI,_⟩:=h.at_;rw[aI] at A;injection A with A;injection A with _ A;cases A
 have aia:¬dY=wb:=by
  rintro rfl;obtain⟨aE,b0,bf,cl,gc,rs,aI,_⟩:=h.at_;rcases an.2 with⟨e,_⟩ | ⟨g,af,ay,e,_,R,_⟩
  ·cases e
  ·injection e with e;injection e with e;injection e with e;subst e;rw[aI] at R;injection R with R;injection R with _ R;cases R
 have aib:¬G=some b:=fun e=>by obtain⟨aE,b0,bf,cl,gc,rs,aI,_,a6,dt,_⟩:=h.at_;exact sD a6 A K (dt.trans e)
 have aic:¬G=some dY:=fun e=>by
  obtain⟨aE,b0,bf,cl,gc,rs,aI,_,a6,dt,_⟩:=h.at_;rcases an.2 with⟨bo,_⟩ | ⟨g,af,ay,bo,_,R,_⟩
  ·cases bo
  ·injection bo with bo;injection bo with bo;injection bo with bo;subst bo;exact sD a6 R K (dt.trans e)
 have hg:∀x:World,x.drew.heap=x.heap:=fun _=>rfl;have cx:=u h;have An:=u (aR.refl wb G w);obtain⟨-,-,-,m1,m2,m3,m4,m5,m6,m7,m8,-,-,-⟩:=cW.d w An.d;clear kN H1 an h A gK uk;generalize f1 (f0 st).2=lO at *;generalize f0 st=ul at *;obtain⟨⟨aI,bM,s1⟩,st1⟩:=lO;obtain⟨⟨gm,ji,nc⟩,fZ⟩:=ul;unfold cb at na;simp only[] at na ⊢;generalize a7 nc=k5 at *;generalize a7 s1=ha at *;go_enter func246,ntmps246;go_upto_region 1 with fail;rename_i iC lP;have hold:∀aB,w.heap.size<=aB->¬F aB:=fun aB cr av=>absurd (cx.d.fH aB av) r;have E4:=u hold;clear hold
 have Nw:Hid (∀(dB:World) (kG jv:Nat),dp dB kG 0=some (q (gm:Int))->dp dB kG 1=some (q ji)->dp dB kG 2=some (.string k5)->dp dB jv 0=some (q (aI:Int))->dp dB jv 1=some (q bM)->dp dB jv 2=some (.string ha)->aM F dB wb G B O ao st1->aR wb G G w dB->Exit.then iC (bodyPost prog f246 (gO F wb G B O ao (.tuple #[q ji,q bM,.bool (decide (gm≠0)&&decide (aI≠0))]) st1 w)) Exit.normal ⟨#[M wb,M b,undef,undef,q 0,q 0,.bool false,M kG,M jv,M wb,M b,M b,.pointer (some ⟨b,6,none⟩),.slice (some ⟨dY,0,none⟩) 2 pc,M dY,dN,.agg #[q (gm:Int),q ji,.string k5],M wb,M b,M b,.pointer (some ⟨b,6,none⟩),.slice (some ⟨dY,0,none⟩) 2 pc,.pointer (some ⟨dY,1,none⟩),bz,.agg #[q (aI:Int),q bM,.string ha],undef,undef,undef,undef,undef,undef,undef,undef,undef,undef,undef,undef],[]⟩ dB):=by
  refine u ?_;intro dB kG jv bk c1 c2 d0 d1 d2 dl hk;have yq:=u dl;have Cf:=u hk;clear dl hk na cW;by_cases z0:gm=0
  ·have c7:((gm:Int)==0)=true:=by rw[beq_iff_eq];omega
   go_upto_region 2 with fail;go_quiet (fail);go_wp2_with fail;refine bodyPost_ret (v:=.tuple #[q ji,q bM,.bool false]) (by simp[results,results246,go_sem]) rfl ⟨by simp[z0],yq.d.drewN _,Cf.d.drewN _⟩
  ·have c7:((gm:Int)==0)=false:=by rw[cV];omega
   by_cases b3:aI=0
   ·have Y:((aI:Int)==0)=true:=by rw[beq_iff_eq];omega
    go_upto_region 2 with fail;go_quiet (fail);go_wp2_with fail;refine bodyPost_ret (v:=.tuple #[q ji,q bM,.bool false]) (by simp[results,results246,go_sem,z0,b3]) rfl ⟨by simp[z0,b3],yq.d.drewN _,Cf.d.drewN _⟩
   ·have Y:((aI:Int)==0)=false:=by rw[cV];omega
    go_upto_region 2 with fail;go_quiet (fail);go_wp2_with fail;refine bodyPost_ret (v:=.tuple #[q ji,q bM,.bool true]) (by simp[results,results246,go_sem,z0,b3]) rfl ⟨by simp[z0,b3],yq.d.drewN _,Cf.d.drewN _⟩
 go_region_held3 (fun w'=>w'.cell? ⟨b,6,none⟩=some (.slice (some ⟨dY,0,none⟩) 2 pc)/\w'.cell? ⟨dY,0,none⟩=some dN/\w'.cell? ⟨dY,1,none⟩=some bz) (go_keep) (first
  | (go_at_call 116;refine(gQ.d _ ?_ ?_).mono ?_;(repeat with_reducible first | exact lk.d | refine aR.alloc ?_ _ | refine aR.drew ?_);(repeat with_reducible first | exact Nx.d | refine aM.alloc ?_ _ | refine aM.drew ?_);rintro e S ⟨rfl,lB,dR,iE,uo⟩;(try have nd:S.heap[J.heap.size]?=some (.cells #[.int .i64 0,.int .i64 0,.string ⟨#[]⟩] 112 (0,0)):=(uo _ (by(try simp only[hg,cc]);omega) yr Ny).trans (by first | exact bH J _ | exact(Below.heap_alloc (J.alloc (.cells #[.int .i64 0,.int .i64 0,.string ⟨#[]⟩] 112)) (.cells #[.int .i64 0,.int .i64 0,.string ⟨#[]⟩] 112) J.heap.size (by(try simp only[hg,cc]);omega)).trans (bH J (.cells #[.int .i64 0,.int .i64 0,.string ⟨#[]⟩] 112))));(try have rU:S.heap[J.heap.size+1]?=some (.cells #[.int .i64 0,.int .i64 0,.string ⟨#[]⟩] 112 (0,0)):=(uo _ (by(try simp only[hg,cc]);omega) Cg Nz).trans (by(have U:=bH (J.alloc (.cells #[.int .i64 0,.int .i64 0,.string ⟨#[]⟩] 112)) (.cells #[.int .i64 0,.int .i64 0,.string ⟨#[]⟩] 112);simp only[cc] at U;exact U)));(try have be:S.heap[w.heap.size]?=some (.cells #[.int .i64 0,.int .i64 0,.string ⟨#[]⟩] 112 (0,0)):=(uo _ (by(try simp only[hg,cc]);omega) m5 m7).trans (by first | exact hM | exact(Below.heap_alloc J (.cells #[.int .i64 0,.int .i64 0,.string ⟨#[]⟩] 112) w.heap.size NA).trans hM));(try have rV:S.heap[w.heap.size+1]?=some (.cells #[.int .i64 0,.int .i64 0,.string ⟨#[]⟩] 112 (0,0)):=(uo _ (by(try simp only[hg,cc]);omega) m6 m8).trans hb);(try have bk:=Z nd (i:=0) rfl);(try have UX:=aQ (i:=0) nd);(try have c1:=Z nd (i:=1) rfl);(try have aid:=aQ (i:=1) nd);(try have c2:=Z nd (i:=2) rfl);(try have aie:=aQ (i:=2) nd);(try have d0:=Z rU (i:=0) rfl);(try have aif:=aQ (i:=0) rU);(try have d1:=Z rU (i:=1) rfl);(try have aig:=aQ (i:=1) rU);(try have d2:=Z rU (i:=2) rfl);(try have aih:=aQ (i:=2) rU);(try have c7:=Z be (i:=0) rfl);(try have aii:=aQ (i:=0) be);(try have Y:=Z be (i:=1) rfl);(try have yj:=aQ (i:=1) be);(try have am:=Z be (i:=2) rfl);(try have rM:=aQ (i:=2) be);(try have f0:=Z rV (i:=0) rfl);(try have aij:=aQ (i:=0) rV);(try have f1:=Z rV (i:=1) rfl);(try have aik:=aQ (i:=1) rV);(try have f2:=Z rV (i:=2) rfl);(try have ail:=aQ (i:=2) rV);obtain⟨t0,-,-,t1,t2,t3,t4,t5,t6,t7,t8,t9,t10,t11⟩:=cW.d S dR;(try have pM:J.heap.size<S.heap.size:=(by(have U:=iE;(try simp only[hg,cc] at U);omega)));(try have UY:¬S.heap.size=J.heap.size:=(by(have U:=iE;(try simp only[hg,cc] at U);omega)));(try have h0:J.heap.size+1<S.heap.size:=(by(have U:=iE;(try simp only[hg,cc] at U);omega)));(try have aim:¬S.heap.size=J.heap.size+1:=(by(have U:=iE;(try simp only[hg,cc] at U);omega)));(try have gR:w.heap.size<S.heap.size:=(by(have U:=iE;(try simp only[hg,cc] at U);omega)));(try have ain:¬S.heap.size=w.heap.size:=(by(have U:=iE;(try simp only[hg,cc] at U);omega)));(try have lA:w.heap.size+1<S.heap.size:=(by(have U:=iE;(try simp only[hg,cc] at U);omega)));(try have aio:¬S.heap.size=w.heap.size+1:=(by(have U:=iE;(try simp only[hg,cc] at U);omega)));have NB:=u lB;have xA:=u dR;clear lB dR iE uo)
  | (go_at_call 116;refine(na.d _ ?_ ?_).mono ?_;(repeat with_reducible first | exact An.d | refine aR.alloc ?_ _ | refine aR.drew ?_);(repeat with_reducible first | exact cx.d | refine aM.alloc ?_ _ | refine aM.drew ?_);rintro e J ⟨rfl,fJ,bZ,⟨iE,uY⟩,gQ⟩;(try have hM:J.heap[w.heap.size]?=some (.cells #[.int .i64 0,.int .i64 0,.string ⟨#[]⟩] 112 (0,0)):=(uY _ (by(try simp only[hg,cc]);omega) m5 m7).trans (by first | exact bH w.drew _ | exact(Below.heap_alloc (w.drew.alloc (.cells #[.int .i64 0,.int .i64 0,.string ⟨#[]⟩] 112)) (.cells #[.int .i64 0,.int .i64 0,.string ⟨#[]⟩] 112) w.heap.size (by(try simp only[hg,cc]);omega)).trans (bH w.drew (.cells #[.int .i64 0,.int .i64 0,.string ⟨#[]⟩] 112))));(try have hb:J.heap[w.heap.size+1]?=some (.cells #[.int .i64 0,.int .i64 0,.string ⟨#[]⟩] 112 (0,0)):=(uY _ (by(try simp only[hg,cc]);omega) m6 m8).trans (by(have U:=bH (w.drew.alloc (.cells #[.int .i64 0,.int .i64 0,.string ⟨#[]⟩] 112)) (.cells #[.int .i64 0,.int .i64 0,.string ⟨#[]⟩] 112);simp only[cc,hg] at U;exact U)));obtain⟨c3,up,rg,cX,cA,AV,Ch,yr,Cg,Ny,Nz,HO,aip,aiq⟩:=cW.d J bZ;(try have NA:w.heap.size<J.heap.size:=(by(have U:=iE;(try simp only[hg,cc] at U);omega)));(try have air:w.heap.size+1<J.heap.size:=(by(have U:=iE;(try simp only[hg,cc] at U);omega)));have Nx:=u fJ;have lk:=u bZ;clear fJ bZ iE uY))
 all_goals
  refine Nw.d _ _ _ (by go_simp) (by go_simp) (by go_simp) (by go_simp) (by go_simp) (by go_simp) ?_ ?_
  ·repeat with_reducible first | exact NB.d | refine aM.alloc ?_ _ | refine aM.drew ?_ | refine aM.drewN ?_ _ | refine aM.other ?_ (E4.d _ r) r (fun e=>by have:=(cx.d.mZ _ e).1;omega) _ _
  ·repeat with_reducible first | exact xA.d | refine aR.alloc ?_ _ | refine aR.drew ?_ | refine aR.drewN ?_ _ | refine aR.later ?_ r _ _
def E5(F:Nat->Prop)(wb:Nat)(G:Option Nat)(B:List bG)(O:Int)(ao:Bool)(w:World)(b:Nat)(st:az)(aC ci:al)(st2:az):Prop:=∀W,aR wb G G w W->aM F W wb G B O ao st->ey 246 #[M wb,M b] W (gO F wb G B O ao (.tuple #[q aC.num,q ci.num,.bool (decide (aC.kind≠0)&&decide (ci.kind≠0))]) st2 W)
def NC(h:aM F (w.alloc jT) wb G B O ao st)(hk:aR wb G aF (w.alloc jT) w'):w'.heap[w.heap.size]?=some (.cells #[q 0,q 0,.string ⟨#[]⟩] 112 (0,0)):=hk.gg h K K (bH w jT)
def ais(b:Nat)(aC ci:al)(w:World)(h:aM F w wb G B O ao st)(bn:E5 F wb G B O ao w b st aC ci st2)(ak:fv aC)(A:fv ci):ey 177 #[M wb,M b] w (gO F wb G B O ao (cb (if aC.kind=0\/ci.kind=0 then (al.zero,st2) else iY (aC.num+ci.num) st2).1) (if aC.kind=0\/ci.kind=0 then (al.zero,st2) else iY (aC.num+ci.num) st2).2 w):=by
 have X:=h.lt;have aN:=u (bn _ (ja wb G jT) (h.alloc jT));have cx:=u h;have fb:Hid (∀J,aR wb G G (w.alloc jT) J->J.heap[w.heap.size]?=some (.cells #[q 0,q 0,.string ⟨#[]⟩] 112 (0,0))):=u (fun J hk=>NC (h.alloc jT) hk);have dy:Hid (∀J,aR wb G G (w.alloc jT) J->aR wb G G w J):=u (fun J hk=>(ja wb G jT).trans X hk);have hw:IntKind.i64.wrap (aC.num+ci.num)=aC.num+ci.num:=by rw[IntKind.wrap_i64];have:=ak.low;have:=ak.high;have:=A.low;have:=A.high;omega
 have dT:Hid (∀J,aM F J wb G B O ao st2->ey 247 #[M wb,q (aC.num+ci.num)] J (gO F wb G B O ao (cb (iY (aC.num+ci.num) st2).1) (iY (aC.num+ci.num) st2).2 J)):=u (fun J q8=>Nt _ J (by have:=ak.low;have:=A.low;have:=ak.high;have:=A.high;omega) (by have:=ak.high;have:=A.high;have:=ak.low;have:=A.low;omega) q8);unfold jT at aN fb dy;clear bn h;have Y:(decide (aC.kind≠0)&&decide (ci.kind≠0)) = !decide (aC.kind=0\/ci.kind=0):=by by_cases x:aC.kind=0<;>by_cases y:ci.kind=0<;>simp[x,y]
 rw[Y] at aN;clear Y;by_cases aY:aC.kind=0\/ci.kind=0
 ·rw[if_pos aY];rw[ax3 aY] at aN;clear dT;go_enter func177,ntmps177;go_wp2_with (go_at_call 246;refine aN.d.mono ?_;rintro e J ⟨rfl,fJ,bZ⟩;have aT:=fb.d J bZ;have d0:=Z aT (i:=0) rfl;have d1:=Z aT (i:=1) rfl;have d2:=Z aT (i:=2) rfl;have f0:=aQ (i:=0) aT;have f1:=aQ (i:=1) aT;have f2:=aQ (i:=2) aT);have cd:=io (x:=q 0) (y:=q 0) (z:=.string ⟨#[]⟩) aT;have z0:=Z cd (i:=0) rfl;have b3:=Z cd (i:=1) rfl;have z2:=Z cd (i:=2) rfl;refine bodyPost_ret (v:=.agg #[q 0,q 0,.string ⟨#[]⟩]) (by simp[results,results177,go_sem,z0,b3,z2]) rfl (kd cx.d fJ (dy.d J bZ) _ _ _)
 ·rw[if_neg aY];rw[ax2 aY] at aN;clear aY;generalize iY (aC.num+ci.num) st2=cm at *;obtain⟨⟨a6,dm,dd⟩,wR⟩:=cm;unfold cb at dT;simp only[] at dT ⊢;unfold cb;simp only[];generalize a7 dd=e3 at *;go_enter func177,ntmps177;go_wp2_with (first | (go_at_call 247;refine(dT.d _ fJ).mono ?_;rintro e S ⟨rfl,lB,dR⟩;have ky:=bZ.trans (by rw[cc];omega) dR;have aT:=fb.d S ky;have d0:=Z aT (i:=0) rfl;have d1:=Z aT (i:=1) rfl;have d2:=Z aT (i:=2) rfl;have f0:=aQ (i:=0) aT;have f1:=aQ (i:=1) aT;have f2:=aQ (i:=2) aT) | (go_at_call 246;refine aN.d.mono ?_;rintro e J ⟨rfl,fJ,bZ⟩));have cd:=io (x:=q (a6:Int)) (y:=q dm) (z:=.string e3) aT;have z0:=Z cd (i:=0) rfl;have b3:=Z cd (i:=1) rfl;have z2:=Z cd (i:=2) rfl
  refine bodyPost_ret (v:=.agg #[q (a6:Int),q dm,.string e3]) (by simp[results,results177,go_sem,z0,b3,z2]) rfl (kd cx.d lB (dy.d S ky) _ _ _)
def ait(b:Nat)(aC ci:al)(w:World)(h:aM F w wb G B O ao st)(bn:E5 F wb G B O ao w b st aC ci st2)(ak:fv aC)(A:fv ci):ey 178 #[M wb,M b] w (gO F wb G B O ao (cb (if aC.kind=0\/ci.kind=0 then (al.zero,st2) else iY (aC.num-ci.num) st2).1) (if aC.kind=0\/ci.kind=0 then (al.zero,st2) else iY (aC.num-ci.num) st2).2 w):=by
 have X:=h.lt;have aN:=u (bn _ (ja wb G jT) (h.alloc jT));have cx:=u h;have fb:Hid (∀J,aR wb G G (w.alloc jT) J->J.heap[w.heap.size]?=some (.cells #[q 0,q 0,.string ⟨#[]⟩] 112 (0,0))):=u (fun J hk=>NC (h.alloc jT) hk);have dy:Hid (∀J,aR wb G G (w.alloc jT) J->aR wb G G w J):=u (fun J hk=>(ja wb G jT).trans X hk);have hw:IntKind.i64.wrap (aC.num-ci.num)=aC.num-ci.num:=by rw[IntKind.wrap_i64];have:=ak.low;have:=ak.high;have:=A.low;have:=A.high;omega
 have dT:Hid (∀J,aM F J wb G B O ao st2->ey 247 #[M wb,q (aC.num-ci.num)] J (gO F wb G B O ao (cb (iY (aC.num-ci.num) st2).1) (iY (aC.num-ci.num) st2).2 J)):=u (fun J q8=>Nt _ J (by have:=ak.low;have:=A.low;have:=ak.high;have:=A.high;omega) (by have:=ak.high;have:=A.high;have:=ak.low;have:=A.low;omega) q8);unfold jT at aN fb dy;clear bn h;have Y:(decide (aC.kind≠0)&&decide (ci.kind≠0)) = !decide (aC.kind=0\/ci.kind=0):=by by_cases x:aC.kind=0<;>by_cases y:ci.kind=0<;>simp[x,y]
 rw[Y] at aN;clear Y;by_cases aY:aC.kind=0\/ci.kind=0
 ·rw[if_pos aY];rw[ax3 aY] at aN;clear dT;go_enter func178,ntmps178;go_wp2_with (go_at_call 246;refine aN.d.mono ?_;rintro e J ⟨rfl,fJ,bZ⟩;have aT:=fb.d J bZ;have d0:=Z aT (i:=0) rfl;have d1:=Z aT (i:=1) rfl;have d2:=Z aT (i:=2) rfl;have f0:=aQ (i:=0) aT;have f1:=aQ (i:=1) aT;have f2:=aQ (i:=2) aT);have cd:=io (x:=q 0) (y:=q 0) (z:=.string ⟨#[]⟩) aT;have z0:=Z cd (i:=0) rfl;have b3:=Z cd (i:=1) rfl;have z2:=Z cd (i:=2) rfl;refine bodyPost_ret (v:=.agg #[q 0,q 0,.string ⟨#[]⟩]) (by simp[results,results178,go_sem,z0,b3,z2]) rfl (kd cx.d fJ (dy.d J bZ) _ _ _)
 ·rw[if_neg aY];rw[ax2 aY] at aN;clear aY;generalize iY (aC.num-ci.num) st2=cm at *;obtain⟨⟨a6,dm,dd⟩,wR⟩:=cm;unfold cb at dT;simp only[] at dT ⊢;unfold cb;simp only[];generalize a7 dd=e3 at *;go_enter func178,ntmps178;go_wp2_with (first | (go_at_call 247;refine(dT.d _ fJ).mono ?_;rintro e S ⟨rfl,lB,dR⟩;have ky:=bZ.trans (by rw[cc];omega) dR;have aT:=fb.d S ky;have d0:=Z aT (i:=0) rfl;have d1:=Z aT (i:=1) rfl;have d2:=Z aT (i:=2) rfl;have f0:=aQ (i:=0) aT;have f1:=aQ (i:=1) aT;have f2:=aQ (i:=2) aT) | (go_at_call 246;refine aN.d.mono ?_;rintro e J ⟨rfl,fJ,bZ⟩));have cd:=io (x:=q (a6:Int)) (y:=q dm) (z:=.string e3) aT;have z0:=Z cd (i:=0) rfl;have b3:=Z cd (i:=1) rfl;have z2:=Z cd (i:=2) rfl
  refine bodyPost_ret (v:=.agg #[q (a6:Int),q dm,.string e3]) (by simp[results,results178,go_sem,z0,b3,z2]) rfl (kd cx.d lB (dy.d S ky) _ _ _)
def aiu(b:Nat)(aC ci:al)(w:World)(h:aM F w wb G B O ao st)(bn:E5 F wb G B O ao w b st aC ci st2)(ak:fv aC)(A:fv ci):ey 179 #[M wb,M b] w (gO F wb G B O ao (cb (if aC.kind=0\/ci.kind=0 then (al.zero,st2) else oy aC.num ci.num st2).1) (if aC.kind=0\/ci.kind=0 then (al.zero,st2) else oy aC.num ci.num st2).2 w):=by
 have X:=h.lt;have aN:=u (bn _ (ja wb G jT) (h.alloc jT));have cx:=u h;have fb:Hid (∀J,aR wb G G (w.alloc jT) J->J.heap[w.heap.size]?=some (.cells #[q 0,q 0,.string ⟨#[]⟩] 112 (0,0))):=u (fun J hk=>NC (h.alloc jT) hk);have dy:Hid (∀J,aR wb G G (w.alloc jT) J->aR wb G G w J):=u (fun J hk=>(ja wb G jT).trans X hk);have gy:Hid (∀n:Int,-1000000000000<=n->n<=1000000000000->∀w:World,ey 248 #[q n] w (ov w (q (max n (-n))))):=u (fun n aw h1 w=>Tu n r r w);have l1:=ak.low;have bT:=ak.high;have xT:=A.low;have s9:=A.high;have bj:Hid (∀J,aM F J wb G B O ao st2->dp J wb 5=some (.bool st2.dE)/\J.frozen? ⟨wb,5,none⟩=false):=u (fun J h1=>h1.In);have aiv:¬wb=w.heap.size:=r;have aiw:¬w.heap.size=wb:=r
 have Ip:Hid (∀c:Bool,decide (ci.num≠0/\(1000000000000:Int).tdiv (max ci.num (-ci.num))<max aC.num (-aC.num))=c->oy aC.num ci.num st2=if c then (al.zero,{st2 with dE:=true}) else (iX (aC.num*ci.num),st2)):=u (fun c ai=>by
  unfold oy lY;cases c
  ·rw[if_neg (of_decide_eq_false ai)];rfl
  ·rw[if_pos (of_decide_eq_true ai)];rfl)
 have ND:Hid (¬(ci.num≠0/\(1000000000000:Int).tdiv (max ci.num (-ci.num))<max aC.num (-aC.num))->IntKind.i64.wrap (aC.num*ci.num)=aC.num*ci.num):=u (fun ar=>by
  have lq:=(Tj aC.num ci.num st2).1;have kX:oy aC.num ci.num st2=(iX (aC.num*ci.num),st2):=by unfold oy lY;rw[if_neg ar]
  rw[kX] at lq;have bq:=lq.low;have a2:=lq.high;have a3:(iX (aC.num*ci.num)).num=aC.num*ci.num:=rfl;rw[IntKind.wrap_i64];simp only[a3] at bq a2;omega)
 unfold jT at aN fb dy;clear bn h ak A;have Y:(decide (aC.kind≠0)&&decide (ci.kind≠0)) = !decide (aC.kind=0\/ci.kind=0):=by by_cases x:aC.kind=0<;>by_cases y:ci.kind=0<;>simp[x,y]
 rw[Y] at aN;clear Y;by_cases aY:aC.kind=0\/ci.kind=0
 ·rw[if_pos aY];rw[ax3 aY] at aN;go_enter func179,ntmps179;go_wp2_with (go_at_call 246;refine aN.d.mono ?_;rintro e J ⟨rfl,fJ,bZ⟩;have aT:=fb.d J bZ;have d0:=Z aT (i:=0) rfl;have d1:=Z aT (i:=1) rfl;have d2:=Z aT (i:=2) rfl;have f0:=aQ (i:=0) aT;have f1:=aQ (i:=1) aT;have f2:=aQ (i:=2) aT);have cd:=io (x:=q 0) (y:=q 0) (z:=.string ⟨#[]⟩) aT;have z0:=Z cd (i:=0) rfl;have b3:=Z cd (i:=1) rfl;have z2:=Z cd (i:=2) rfl;refine bodyPost_ret (v:=.agg #[q 0,q 0,.string ⟨#[]⟩]) (by simp[results,results179,go_sem,z0,b3,z2]) rfl (kd cx.d fJ (dy.d J bZ) _ _ _)
 ·rw[if_neg aY];rw[ax2 aY] at aN;clear aY;generalize aC.num=aB at *;generalize ci.num=bB at *;by_cases bw:bB=0
  ·subst bw;have am:=Ip.d false (ax2 (fun h=>h.1 rfl));rw[am];clear am Ip ND;go_enter func179,ntmps179;go_wp2_with (first | (go_at_call 45;refine(tg _ _).mono ?_;rintro e S ⟨rfl,ah⟩;have ky:=bZ.trans (by rw[cc];omega) (aR.of ah);have aT:=fb.d S ky;have d0:=Z aT (i:=0) rfl;have d1:=Z aT (i:=1) rfl;have d2:=Z aT (i:=2) rfl;have f0:=aQ (i:=0) aT;have f1:=aQ (i:=1) aT;have f2:=aQ (i:=2) aT) | (go_at_call 246;refine aN.d.mono ?_;rintro e J ⟨rfl,fJ,bZ⟩));have cd:=io (x:=q 1) (y:=q (0)) (z:=.string ⟨#[]⟩) aT;have z0:=Z cd (i:=0) rfl;have b3:=Z cd (i:=1) rfl;have z2:=Z cd (i:=2) rfl
   refine bodyPost_ret (v:=.agg #[q 1,q (0),.string ⟨#[]⟩]) (by simp[results,results179,go_sem,z0,b3,z2]) rfl (by simpa [cb,iX,a7] using (kd (v:=cb (iX 0)) cx.d (fJ.below ah) (dy.d S ky) (q 1) (q 0) (.string ⟨#[]⟩)))
  ·have aso:(bB==0)=false:=by rw[cV];exact bw
   have UZ:Hid (∀w:World,ey 248 #[q aB] w fun e w'=>e=.returned (q (max aB (-aB)))/\w=w'/\Hid (∀w:World,ey 248 #[q bB] w (ov w (q (max bB (-bB)))))):=u (fun w=>(gy.d aB l1 bT w).mono fun e w' aj=>⟨aj.1,aj.2,u (gy.d bB xT s9)⟩);have Iq:¬max bB (-bB)=0:=r;have asp:(max bB (-bB)==0)=false:=by rw[cV];exact Iq
   have ae:IntKind.i64.wrap ((1000000000000:Int).tdiv (max bB (-bB)))=(1000000000000:Int).tdiv (max bB (-bB)):=by rw[Int.tdiv_eq_ediv_of_nonneg K];have g1:0<max bB (-bB):=r;have g2:0<=1000000000000/max bB (-bB):=Int.ediv_nonneg K r;have g3:1000000000000/max bB (-bB)<=1000000000000:=Int.ediv_le_self _ K;rw[IntKind.wrap_i64];omega
   have Ir:Hid (∀c:Bool,decide ((1000000000000:Int).tdiv (max bB (-bB))<max aB (-aB))=c->oy aB bB st2=if c then (al.zero,{st2 with dE:=true}) else (iX (aB*bB),st2)):=u (fun c ai=>Ip.d c (by rw[<-ai];exact decide_eq_decide.2 ⟨fun x=>x.2,fun x=>⟨bw,x⟩⟩));have NE:Hid (¬(1000000000000:Int).tdiv (max bB (-bB))<max aB (-aB)->IntKind.i64.wrap (aB*bB)=aB*bB):=u (fun h=>ND.d (fun x=>h x.2));clear Ip ND gy;generalize max bB (-bB)=M2 at *;generalize max aB (-aB)=U0 at *;by_cases k0:(1000000000000:Int).tdiv M2<U0
   ·have am:=Ir.d true (ax3 k0);rw[am];clear am Ir NE;go_enter func179,ntmps179;go_wp2_with (first | (go_at_call 248;refine(NF.d _).mono ?_;rintro e bI ⟨rfl,rfl⟩) | (go_at_call 248;refine(UZ.d _).mono ?_;rintro e aA ⟨rfl,rfl,NF⟩) | (go_at_call 246;refine aN.d.mono ?_;rintro e J ⟨rfl,fJ,bZ⟩;obtain⟨fO,g5⟩:=bj.d J fJ;have ky:=bZ;have aT:=fb.d J ky;have d0:=Z aT (i:=0) rfl;have d1:=Z aT (i:=1) rfl;have d2:=Z aT (i:=2) rfl;have f0:=aQ (i:=0) aT;have f1:=aQ (i:=1) aT;have f2:=aQ (i:=2) aT));have aix:(J.setCell ⟨wb,5,none⟩ (.bool true)).heap[w.heap.size]?=some (.cells #[q 0,q 0,.string ⟨#[]⟩] 112 (0,0)):=(Below.heap_setCell _ _ _ _ (by exact aiw)).trans aT;have cd:=io (x:=q 0) (y:=q 0) (z:=.string ⟨#[]⟩) aix
    have z0:=Z cd (i:=0) rfl;have b3:=Z cd (i:=1) rfl;have z2:=Z cd (i:=2) rfl;refine bodyPost_ret (v:=.agg #[q 0,q 0,.string ⟨#[]⟩]) (by simp[results,results179,go_sem,z0,b3,z2]) rfl (kd cx.d fJ.fail ((dy.d J bZ).trans X (wQ wb G 5 _)) _ _ _)
   ·have am:=Ir.d false (ax2 k0);rw[am];have hmul:=NE.d k0;have U1:U0<=(1000000000000:Int).tdiv M2:=r;clear am Ir NE;go_enter func179,ntmps179;go_wp2_with (first | (go_at_call 45;refine(tg _ _).mono ?_;rintro e S ⟨rfl,ah⟩;have ky:=bZ.trans (by rw[cc];omega) (aR.of ah);have aT:=fb.d S ky;have d0:=Z aT (i:=0) rfl;have d1:=Z aT (i:=1) rfl;have d2:=Z aT (i:=2) rfl;have f0:=aQ (i:=0) aT;have f1:=aQ (i:=1) aT;have f2:=aQ (i:=2) aT) | (go_at_call 248;refine(NF.d _).mono ?_;rintro e bI ⟨rfl,rfl⟩) | (go_at_call 248;refine(UZ.d _).mono ?_;rintro e aA ⟨rfl,rfl,NF⟩) | (go_at_call 246;refine aN.d.mono ?_;rintro e J ⟨rfl,fJ,bZ⟩));have cd:=io (x:=q 1) (y:=q (aB*bB)) (z:=.string ⟨#[]⟩) aT;have z0:=Z cd (i:=0) rfl
    have b3:=Z cd (i:=1) rfl;have z2:=Z cd (i:=2) rfl;refine bodyPost_ret (v:=.agg #[q 1,q (aB*bB),.string ⟨#[]⟩]) (by simp[results,results179,go_sem,z0,b3,z2]) rfl (kd cx.d (fJ.below ah) (dy.d S ky) _ _ _)
def aiy(rs:List (Nat×Value))(i:Nat)(h:i<rs.length):(cQ rs)[i*2+1]?=some rs[i].2:=(Hm rs i h).2
def aiz{B:List eb}(b:Nat)(s n:e6)(v:al)(ud U:aL)(lo hi:Nat)(w:World)(aw:aM F w wb G bd O ao fZ)(aj:dK B w (.node 1 s n v ud U) I lo hi [M b]){L:Nat}(wS:cB ((I.map bO).take L) st.ad)(xI:∀p,placeOf I s n=some p->p.1<L):∀W,aR wb G G w W->aM F W wb G bd O ao st->ey 174 #[M wb,M b] W (gO F wb G bd O ao (cb (BP (I.map bO) st s n)) st W):=by
 intro W hk hw;obtain⟨kH,l1,m,h1,co,xs,qs,p0,p1,p2,e,-,A,-,mn,-,-⟩:=hk.qO aw aj;injection e with e _;injection e with e;injection e with e;injection e with e;subst e;obtain⟨p,n2,rfl,rfl,rfl⟩:=mn rfl;obtain⟨Lg,oE,-,-,-⟩:=EL n2;obtain⟨aE,b0,bf,cl,gc,rs,aI,aZ,a6,dt,e8,i8⟩:=hw.at_;have b7:st.ad.length=min L I.length:=by rw[wS.len,List.length_take,cZ]
 have kA:p.1<st.ad.length:=by have:=xI p n2;omega
 have G9:rs.length=st.ad.length:=e8.len;have LV:p.1<((I.map bO).take L).length:=by rw[<-wS.len];exact kA
 obtain⟨uc,NG⟩:=wS.get p.1 LV kA;have aiA:((I.map bO).take L)[p.1].bl.length=I[p.1].bl.length:=by rw[List.getElem_take,List.getElem_map];rfl
 have kv:p.2.1<st.ad[p.1].2.length:=by rw[uc,aiA];exact oE
 obtain⟨-,an⟩:=e8.get p.1 r kA;have aiB:BP (I.map bO) st s n=st.ad[p.1].2[p.2.1]:=by unfold BP;rw[E1,n2];simp only[List.getD_eq_getElem?_getD,fC kA,Option.getD_some,fC kv]
 rw[aiB];rcases a6.2 with⟨_,aY⟩ | ⟨g,af,ay,rfl,-,R,-⟩
 ·omega
 obtain⟨gv,fj,U2,-,-,ef⟩:=an.Ho r;have c1:dp W g (p.1*2+1)=some (.slice (some ⟨gv,0,none⟩) st.ad[p.1].2.length fj):=by have:=a6.cells rfl (p.1*2+1) _ (aiy rs p.1 r);rw[Addr.add_lit,ax1,U2] at this;exact this
 rw[U2] at an;obtain⟨v0,v1,v2⟩:=wu st.ad[p.1].2 p.2.1 kv;refine(ah7 wb b p.1 p.2.1 g st.ad.length af gv st.ad[p.1].2.length fj st.ad[p.1].2[p.2.1] W (Z aI (i:=2) rfl) (Z A (i:=8) rfl) (Z A (i:=9) rfl) kA c1 kv (an.cells v0) (an.cells v1) (an.cells v2) hw.lt (br A).1 (br R).1 ef).mono ?_;rintro e w' ⟨rfl,bc⟩;exact⟨rfl,hw.below bc,aR.of bc⟩
def aiC(wb b:Nat)(x:al)(w:World)(dZ:dp w b 3=some (q (x.kind:Int)))(gp:dp w b 4=some (q x.num))(fO:dp w b 5=some (.string (a7 x.du)))(bc:b<w.heap.size):ey 175 #[M wb,M b] w (gU w (cb x)):=by have ar:¬b=w.heap.size:=r;unfold cb;generalize a7 x.du=dB at *;go_enter func175,ntmps175;go_wp2_with fail;refine bodyPost_ret (v:=.agg #[q (x.kind:Int),q x.num,.string dB]) (by simp[results,results175,go_sem]) rfl ⟨rfl,?_⟩;exact cT
def aiD{B:List eb}(b k:Nat)(s n:e6)(v:al)(ud U:aL)(lo hi:Nat)(w:World)(aw:aM F w wb G bd O ao fZ)(aj:dK B w (.node k s n v ud U) I lo hi [M b]):∀W,aR wb G G w W->aM F W wb G bd O ao st->ey 175 #[M wb,M b] W (gO F wb G bd O ao (cb v) st W):=by intro W hk hw;obtain⟨kH,l1,m,h1,co,xs,qs,p0,p1,p2,e,-,A,-,-,-,-⟩:=hk.qO aw aj;injection e with e _;injection e with e;injection e with e;injection e with e;subst e;refine(aiC wb b v W (Z A (i:=3) rfl) (Z A (i:=4) rfl) (Z A (i:=5) rfl) (br A).1).mono ?_;rintro e w' ⟨rfl,bc⟩;exact⟨rfl,hw.below bc,aR.of bc⟩
def aiE(wb b:Nat)(O:Int)(w:World)(c1:dp w wb 1=some (q O))(bc:wb<w.heap.size):ey 176 #[M wb,M b] w (gU w (cb (iX O))):=by
 have ar:¬wb=w.heap.size:=r;have dT:=u (Ns w);unfold jT at dT;go_enter func176,ntmps176;go_wp2_with (go_at_call 45;refine(tg _ _).mono ?_;rintro e S ⟨rfl,ah⟩;have aT:S.heap[w.heap.size]?=some (.cells #[q 0,q 0,.string ⟨#[]⟩] 112 (0,0)):=(ah.block _ (by simp)).trans (bH w _);have d0:=Z aT (i:=0) rfl;have d1:=Z aT (i:=1) rfl;have d2:=Z aT (i:=2) rfl;have c7:=aQ (i:=0) aT;have Y:=aQ (i:=1) aT;have am:=aQ (i:=2) aT);have aY:=io (x:=q 1) (y:=q O) (z:=.string ⟨#[]⟩) aT;have z0:=Z aY (i:=0) rfl;have b3:=Z aY (i:=1) rfl;have z2:=Z aY (i:=2) rfl;have lW:eB w S:=dT.d.trans (ah.mono dT.d.size)
 refine bodyPost_ret (v:=.agg #[q 1,q O,.string ⟨#[]⟩]) (by simp[results,results176,go_sem,z0,b3,z2]) rfl ⟨rfl,((lW.setCell (by exact Nat.le_refl w.heap.size) _).setCell (by exact Nat.le_refl w.heap.size) _).setCell (by exact Nat.le_refl w.heap.size) _⟩
def aiF(b:Nat)(w:World):∀W,aR wb G G w W->aM F W wb G bd O ao st->ey 176 #[M wb,M b] W (gO F wb G bd O ao (cb (iX O)) st W):=by intro W hk hw;obtain⟨aE,b0,bf,cl,gc,rs,aI,-⟩:=hw.at_;refine(aiE wb b O W (Z aI (i:=1) rfl) hw.lt).mono ?_;rintro e w' ⟨rfl,bc⟩;exact⟨rfl,hw.below bc,aR.of bc⟩
def aiG(wb b n:Nat)(bf:Option Addr)(gc:Nat)(w:World)(dZ:dp w wb 3=some (.slice bf n gc))(_:n<=1000000)(bc:wb<w.heap.size):ey 180 #[M wb,M b] w (gU w (cb (iX n))):=by
 have ar:¬wb=w.heap.size:=r;have dT:=u (Ns w);unfold jT at dT;go_enter func180,ntmps180;go_wp2_with (go_at_call 45;refine(tg _ _).mono ?_;rintro e S ⟨rfl,ah⟩;have aT:S.heap[w.heap.size]?=some (.cells #[q 0,q 0,.string ⟨#[]⟩] 112 (0,0)):=(ah.block _ (by simp)).trans (bH w _);have d0:=Z aT (i:=0) rfl;have d1:=Z aT (i:=1) rfl;have d2:=Z aT (i:=2) rfl;have c7:=aQ (i:=0) aT;have Y:=aQ (i:=1) aT;have am:=aQ (i:=2) aT);have aY:=io (x:=q 1) (y:=q (n:Int)) (z:=.string ⟨#[]⟩) aT;have z0:=Z aY (i:=0) rfl;have b3:=Z aY (i:=1) rfl;have z2:=Z aY (i:=2) rfl;have lW:eB w S:=dT.d.trans (ah.mono dT.d.size)
 refine bodyPost_ret (v:=.agg #[q 1,q (n:Int),.string ⟨#[]⟩]) (by simp[results,results180,go_sem,z0,b3,z2]) rfl ⟨rfl,((lW.setCell (by exact Nat.le_refl w.heap.size) _).setCell (by exact Nat.le_refl w.heap.size) _).setCell (by exact Nat.le_refl w.heap.size) _⟩
def aiH(b:Nat)(w:World)(R:st.bF.length<=20000):∀W,aR wb G G w W->aM F W wb G bd O true st->ey 180 #[M wb,M b] W (gO F wb G bd O true (cb (iX st.bF.length)) st W):=by
 intro W hk hw;obtain⟨aE,b0,bf,cl,gc,rs,aI,aZ,a6,dt,e8,i8⟩:=hw.at_;obtain⟨vs,⟨⟨nB,cJ,e⟩,-⟩,ai⟩:=i8 rfl;injection e with Y am bm;have rI:cl=st.bF.length:=by rw[am,ai.len]
 rw[<-rI] at R ⊢;refine(aiG wb b cl bf gc W (Z aI (i:=3) rfl) r hw.lt).mono ?_;rintro e w' ⟨rfl,bc⟩;exact⟨rfl,hw.below bc,aR.of bc⟩
def p3.find{aE:Value}(h:p3 F w aE B)(name:e6)(i:Nat)(hi:i<B.length)(av:fD B name=some i):∃qR,iW F w qR B[i]/\∀w',dj F F w w'->ey 30 #[aE,.string name] w' (ov w' (M qR)):=by
 obtain⟨bs,h1,H,ab,aK⟩:=h;refine⟨bs[i]'r,aK i r hi,fun w' m=>?_⟩;have:=Lw aE bs (B.map (·.name)) name 0 w' (H.move m).1 (by rw[cZ,h1]) r (fun j a b=>by
  rw[cZ] at b;rw[((aK j a b).move m).name];simp)
 rw[LM,av] at this;simpa [rA,List.getD_eq_getElem?_getD,show i<bs.length by omega] using this
def Vq(aX cH:e6)(i:Nat)(w:World)(h:aM F w wb G B O ao st)(av:fD B aX=some i):ey 236 #[M wb,.agg #[.string aX,.string cH]] w fun e w'=>∃v rs,e=.returned v/\eg F w' 115 2 v (gC B (aX,cH)).length (cQ rs)/\dk F w' rs (gC B (aX,cH))/\Below w.heap.size w w':=by
 have hi:=yb av;have eU:gC B (aX,cH)=B[i].ad:=by unfold gC;simp only[av,b2,fC hi,eQ,Option.getD_some]
 rw[eU];have hold:=h.fH;obtain⟨aE,b0,bf,cl,gc,iM,aI,aZ,-⟩:=h.at_;obtain⟨qR,Ax,Vr⟩:=aZ.find aX i hi av;obtain⟨fl,Fi,rs,h1,H,ab,aK⟩:=Ax;have aO:Below w.heap.size w (w.alloc (.cells #[.string aX,.string cH] 161)):=cT;have fA:=bH w (.cells #[.string aX,.string cH] 161);have bk:_=some aE:=dr aO (Z aI (i:=0) rfl) (br aI).1;have d2:_=some Fi:=dr aO (h1.cell (i:=2) rfl) h1.lt;have hr:_=some (Value.string aX):=Z fA (i:=0) rfl;have bj:Hid (∀aU,Below (w.alloc (.cells #[.string aX,.string cH] 161)).heap.size (w.alloc (.cells #[.string aX,.string cH] 161)) aU->ey 30 #[aE,.string aX] aU (ov aU (M qR))):=u (fun aU A=>Vr aU (fun k hk av=>⟨av,(A.block k (e0 hk aO.size)).trans (aO.block k hk)⟩))
 have bK:Hid (∀W,Below w.heap.size w W->eg F W 115 2 Fi B[i].ad.length (cQ rs)/\dk F W rs B[i].ad):=u (fun W A=>⟨ab.move (fun k hk av=>⟨av,A.block k hk⟩),aK.move (fun k hk av=>⟨av,A.block k hk⟩)⟩);have b4:=u aO;clear fA aO h1 H ab aK Vr aI aZ hold h eU;generalize B[i].ad=l4 at *;clear av hi;go_enter func236,ntmps236;go_upto_region 1 with fail;generalize w.alloc (.cells #[.string aX,.string cH] 161)=W at *;generalize cr:w.heap.size=aB at *;have eo:=u cr;clear cr;go_region_held3 (fun w'=>w'.cell? ⟨wb,0,none⟩=some aE/\w'.cell? ⟨aB,0,none⟩=some (.string aX)/\w'.cell? ⟨qR,2,none⟩=some Fi) (go_keep) (first | (go_at_call 30;refine(bj.d W.drew ⟨rfl,rfl,rfl,ap,fun _ _=>rfl⟩).mono ?_;rintro e J ⟨rfl,rfl⟩));all_goals
  go_wp2_with fail;go_ret;have aY:=b4.d.trans (c:=W.drew) ⟨rfl,rfl,rfl,ap,fun _ _=>rfl⟩;exact⟨Fi,rs,rfl,(bK.d _ aY).1,(bK.d _ aY).2,by rw[eo.d] at *;exact aY⟩
def qS(w:World)(v:Value)(V:lh):Prop:=(∃a af,v=.slice a V.length af/\V.length<=af)/\∀a n af,v=.slice a n af->0<V.length->∃g off ay,a=some ⟨g,off,none⟩/\w.heap[g]?=some (.cells ay 161 (0,0))/\∀i (h:i<V.length),ay[off+i*2]?=some (.string V[i].1)/\ay[off+i*2+1]?=some (.string V[i].2)
def qS.a8(h:qS w v V)(hk:∀(k:Nat) (cs:Array Value),w.heap[k]?=some (.cells cs 161 (0,0))->w'.heap[k]?=some (.cells cs 161 (0,0))):qS w' v V:=by refine⟨h.1,fun a n af hv aw=>?_⟩;obtain⟨g,off,ay,e,h1,H⟩:=h.2 a n af hv aw;exact⟨g,off,ay,e,hk _ _ h1,H⟩
def qS.below(h:qS w v V)(A:eB w w'):qS w' v V:=h.a8 fun k _ e=>(A.block k (br e).1).trans e
def qS.cells{a:Option Addr}{af:Nat}(h:qS w (.slice a n af) V)(i:Nat)(hi:i<V.length):∃g off,a=some ⟨g,off,none⟩/\g<w.heap.size/\dp w g (off+i*2)=some (.string V[i].1)/\dp w g (off+i*2+1)=some (.string V[i].2):=by obtain⟨g,off,ay,e,h1,H⟩:=h.2 a n af rfl r;exact⟨g,off,e,(br h1).1,Z h1 (H i hi).1,Z h1 (H i hi).2⟩
def Vs(B:List bG)(l:lh)(s:e6×e6):fY B (l++[s])=fY B l*(gC B s).length:=by unfold fY;rw[List.foldl_append];rfl
def Vt(B:List bG)(V:lh)(h:∀s∈V,(gC B s).length<=10000):∀j,j<=V.length->fY B (V.take j)<=10000 ^ j
 | 0,_=>by rw[List.take_zero];exact ap
 | j+1,aS=>by rw[jD r,Vs,Nat.pow_succ];exact Nat.mul_le_mul (Vt B V h j r) (h _ (ec _))
def ajo{j:Nat}(h:j<=3):10000 ^ j<=1000000000000:=by
 match j,h with
 | 0,_ | 1,_ | 2,_ | 3,_=>decide
def aM.eP{F:Nat->Prop}{w:World}{wb:Nat}{G:Option Nat}{B:List bG}{O:Int}{ao:Bool}{st:az}(h:aM F w wb G B O ao st)(n:Nat):aM F (w.setCell ⟨wb,4,none⟩ (q (n:Int))) wb G B O ao {st with eP:=n}:=by have R:=h.mZ;obtain⟨aE,b0,bf,cl,gc,rs,h1,H,ab,aK,cO,cE⟩:=h.at_;have m:=(wQ (w:=w) wb G 4 (q (n:Int))).p4 h.own;exact⟨fun k hk=>by rw[size_set];exact h.fH k hk,h.own,aE,b0,bf,cl,gc,rs,hc h1 _,H.move m,E0 ab (by rw[aK];intro e;exact(R wb e).2 rfl) _ _,aK,cO.move m,fun e=>(cE e).move m⟩
def ajp(sv:Value)(V:lh)(w:World)(h:aM F w wb G B O ao st)(hs:qS w sv V)(ab:V.length<=3)(ag:∀s∈V,(gC B s).length<=10000)(av:∀s∈V,∃i,fD B s.1=some i)(sU:st.eP<=1000000000000000):ey 159 #[M wb,sv] w (gO F wb G B O ao (q (fY B V:Int)) (mQ (fY B V) st) w):=by
 obtain⟨⟨a,af,rfl,om⟩,_⟩:=hs.1,hs.2;have hle:=fun j aS=>bX (Vt B V ag j aS) (ajo (bX aS ab));have IE:Hid (∀(j:Nat) (aS:j<V.length),fY B (V.take (j+1))=fY B (V.take j)*(gC B V[j]).length/\fY B (V.take (j+1))<=1000000000000):=u (fun j aS=>⟨by rw[jD aS,Vs],hle (j+1) aS⟩);have gy:Hid (∀W,eB w W->qS W (.slice a V.length af) V):=u (fun W A=>hs.below A);have cK:Hid (∀(W:World) (j:Nat) (aS:j<V.length),eB w W->ey 236 #[M wb,.agg #[.string V[j].1,.string V[j].2]] W fun e w'=>∃a af,e=.returned (.slice a (gC B V[j]).length af)/\eB W w'):=u (fun W j aS A=>by
  obtain⟨i,hi⟩:=av _ (ec aS);refine(Vq V[j].1 V[j].2 i W (h.below A) hi).mono ?_;rintro e w' ⟨v,rs,rfl,h1,_,H⟩;obtain⟨a,af,e⟩:=cG h1.1;exact⟨a,af,by rw[e],H⟩)
 have cx:=u h;have VB:Hid (fY B V=fY B (V.take V.length)/\fY B V<=1000000000000):=u ⟨by rw[List.take_length],by have:=hle V.length ap;rwa [List.take_length] at this⟩;have zJ:(0:Int)<=(V.length:Int):=r;have X:=h.lt;clear hle hs h ag av;go_enter func159,ntmps159;go_upto_region 3 with fail;go_loopg [5,10] (V.length+1) (fun U bp i wr=>∃(j:Nat),j<=V.length/\i=q (j:Int)/\bp=q (fY B (V.take j):Int)/\Hid (eB w wr)/\V.length-j<U);case atStart=>exact⟨0,bu,rfl,rfl,u (Below.refl _ _),r⟩
 case round=>
  obtain⟨j,aS,rfl,rfl,jQ,ae⟩:=hrel;by_cases aD:j<V.length
  ·have cL:(j:Int)<(V.length:Int):=r;obtain⟨g,off,rfl,ef,bk,c1⟩:=(gy.d _ jQ.d).cells j aD;obtain⟨dG,fg⟩:=IE.d j aD;have wU:¬g=wr.heap.size:=r;have qN:Hid (∀b:Obj,eB w (wr.alloc b)):=u (fun b=>jQ.d.alloc (jQ.d.size) b);have gS:Hid (∀(b:Obj) (x y:Value),eB w (((wr.alloc b).setCell ⟨wr.heap.size,0,none⟩ x).setCell ⟨wr.heap.size,1,none⟩ y)):=u (fun b x y=>((jQ.d.alloc (jQ.d.size) b).setCell (by exact jQ.d.size) _).setCell (by exact jQ.d.size) _);have Vu:=fun W A=>cK.d W j aD A;have ajq:=u Vu;clear Vu;rw[dG] at fg;have fr:IntKind.i64.wrap ((fY B (V.take j):Int)*((gC B V[j]).length:Int))=((fY B (V.take j)*(gC B V[j]).length:Nat):Int):=by
    have:((fY B (V.take j):Int)*((gC B V[j]).length:Int))=((fY B (V.take j)*(gC B V[j]).length:Nat):Int):=by push_cast;rfl
    rw[this,IntKind.wrap_i64];omega
   have vt:IntKind.i64.wrap ((j:Int)+1)=(j:Int)+1:=mC;have bn:Hid (fY B (V.take (j+1))=fY B (V.take j)*(gC B V[j]).length):=u dG;have ch:=u ae;clear dG fg ae;generalize (gC B V[j]).length=N at *;generalize fY B (V.take j)=eF at *;generalize V[j].1=ha at *;generalize V[j].2=jJ at *;go_wp2_with (go_at_call 236;refine(ajq.d _ (by first | exact gS.d _ _ _ | exact qN.d _)).mono ?_;rintro e S ⟨eL,fm,rfl,ah⟩);have ae:=ch.d;go_roundg (V.length-j);case measure=>omega
   case rel=>exact⟨j+1,r,by go_num,by rw[bn.d];push_cast;rfl,u ((by first | exact gS.d _ _ _ | exact qN.d _:eB w _).trans (ah.mono (by first | exact(gS.d _ _ _).size | exact(qN.d _).size))),r⟩
  ·have eZ:j=V.length:=r;subst eZ;have cL:(V.length:Int)<=(V.length:Int):=r;obtain⟨oV,tb⟩:=VB.d;rw[<-oV];have aO:=cx.d.below jQ.d;have b4:=u aO;obtain⟨aE,b0,bf,cl,gc,rs,aI,-⟩:=aO.at_;have gp:=Z aI (i:=4) rfl;have hq:=aQ (i:=4) aI;have ol:=aQ (i:=5) aI;have fO:=Z aI (i:=5) rfl;have Fj:IntKind.i64.wrap ((st.eP:Int)+(fY B V:Int))=((st.eP+fY B V:Nat):Int):=by rw[IntKind.wrap_i64];omega
   clear VB oV IE gy cK;have IF:Hid (aR wb G G w wr):=u (aR.of jQ.d);have hW:=u X;generalize fY B V=eF at *;clear aI aO ae jQ;by_cases k0:20000<st.eP+eF
   ·have U1:(20000:Int)<((st.eP+eF:Nat):Int):=r;go_wp2_with fail;go_ret;have cr:=(b4.d.eP (st.eP+eF)).fail;have bw:=(IF.d.trans hW.d (wQ wb G 4 (q ((st.eP+eF:Nat):Int)))).trans hW.d (wQ wb G 5 (.bool true));rw[Int.natCast_add] at cr bw;refine⟨rfl,?_,bw⟩;have e:mQ eF st={{st with eP:=st.eP+eF} with dE:=true}:=by unfold mQ;rw[ax3 k0,Bool.or_true]
    rw[e];exact cr
   ·have U1:((st.eP+eF:Nat):Int)<=(20000:Int):=r;go_wp2_with fail;go_ret;have cr:=b4.d.eP (st.eP+eF);have bw:=IF.d.trans hW.d (wQ wb G 4 (q ((st.eP+eF:Nat):Int)));rw[Int.natCast_add] at cr bw;refine⟨rfl,?_,bw⟩;have e:mQ eF st={st with eP:=st.eP+eF}:=by unfold mQ;rw[ax2 k0,Bool.or_false]
    rw[e];exact cr
def FU:∀t:aL,ga l0 t=dJ t
 | .nil=>rfl
 | .cons h t=>by rw[ga,dJ,FU h,FU t]
 | .node k s n v p U=>by rw[ga,dJ,FU p];rfl
 | .query _ _ _ _ _=>rfl
def Jp:∀t:aL,ga vi t=dw t
 | .nil=>rfl
 | .cons h t=>by rw[ga,dw,Jp h,Jp t]
 | .node k s n v p U=>by rw[ga,dw,Jp p];rfl
 | .query _ _ _ _ _=>rfl
def FV:∀(t:aL) (tag:Nat),aJ t tag->tag≠2->dw t=false->h6 t=false
 | .nil,_,_,_,_=>rfl
 | .cons h t,tag,R,au,he=>by rw[dw,Bool.or_eq_false_iff] at he;rw[h6];rcases R with⟨rfl,g1,g2⟩ | ⟨rfl,g1,g2⟩ | ⟨rfl,g1,g2⟩<;>rw[FV h _ g1 K he.1,FV t _ g2 K he.2]<;>rfl
 | .node k s n v p U,tag,R,au,he=>by
  rw[dw,Bool.or_eq_false_iff] at he;rw[h6,he.1,Bool.false_and,Bool.false_or];obtain⟨_,_,g | g | g⟩:=R
  ·exact FV p 3 g.2.1 K he.2
  ·exact FV p 6 g.2.2.2.1 K he.2
  ·rw[g.2.2.1];rfl
 | .query _ _ _ _ _,tag,R,au,_=>absurd R.1 au
def FW(R:aJ t tag)(au:tag=3\/tag=6)(h:dH t=0):t=.nil:=by
 cases t with
 | nil=>rfl
 | cons=>simp[dH] at h
 | node=>obtain⟨_,_,g⟩:=R;rcases g with⟨g,_⟩ | ⟨g,_⟩ | ⟨g,_⟩<;>omega
 | query=>obtain⟨g,_⟩:=R;omega
def CJ(l:lh):∀(t:aL) (tag:Nat),aJ t tag->tag≠2->mx l .nil t=false->rE l t
 | .nil,_,_,_,_=>trivial
 | .cons h t,tag,R,au,he=>by rw[mx,Bool.or_eq_false_iff] at he;rcases R with⟨rfl,g1,g2⟩ | ⟨rfl,g1,g2⟩ | ⟨rfl,g1,g2⟩<;>exact⟨CJ l h _ g1 K he.1,CJ l t _ g2 K he.2⟩
 | .node k s n v p U,tag,R,au,he=>by
  have aj:aJ p 3\/aJ p 6\/p=.nil:=by
   obtain⟨_,_,g | g | g⟩:=R
   ·exact .inl g.2.1
   ·exact .inr (.inl g.2.2.2.1)
   ·exact .inr (.inr g.2.2.1)
  have ak:=R.2.1;rw[mx] at he;by_cases hk:nY k=true
  ·have gi:7<=k/\k<=11:=by simpa [nY] using hk
   refine⟨fun e=>r,?_⟩;by_cases kD:k=7
   ·subst kD;rcases aj with aj | aj | aj
    ·rw[FW aj (.inl rfl) ak];exact .inr trivial
    ·rw[FW aj (.inr rfl) ak];exact .inr trivial
    ·rw[aj];exact .inr trivial
   ·exact .inl r
  ·rw[if_neg hk] at he;by_cases h1:k=1
   ·subst h1;rw[if_pos rfl] at he;refine⟨fun _ x aa e=>?_,.inr ?_⟩
    ·have ct:wI l s=true:=List.any_eq_true.2 ⟨x,aa,by simpa using e⟩;rw[ct] at he;cases he
    ·rcases aj with aj | aj | aj
     ·rw[FW aj (.inl rfl) ak];trivial
     ·rw[FW aj (.inr rfl) ak];trivial
     ·rw[aj];trivial
   ·rw[if_neg h1] at he;refine⟨fun e=>absurd e h1,.inr ?_⟩;rcases aj with aj | aj | aj
    ·exact CJ l p 3 aj K he
    ·exact CJ l p 6 aj K he
    ·rw[aj];trivial
 | .query _ _ _ _ _,tag,R,au,_=>absurd R.1 au
def Xl(l:lh)(g:aL):∀e:aL,aJ e 3->(∀n∈elems e,mx l g n=false)->mx l g e=false
 | .nil,_,_=>rfl
 | .cons h t,R,he=>by rw[mx,he h (by simp[elems]),Bool.false_or];exact Xl l g t (Ib R).2 (fun n ar=>he n (by rw[elems];exact List.mem_cons_of_mem _ ar))
 | .node k s n v p U,R,_=>by obtain⟨_,_,g⟩:=R;rcases g with⟨g,_⟩ | ⟨g,_⟩ | ⟨g,_⟩<;>omega
 | .query _ _ _ _ _,R,_=>by obtain⟨g,_⟩:=R;omega
def yO{td:List eb}:∀(t:aL) (tag:Nat) (I:List dC),aJ t tag->eh td I t=true->h6 t=false->mr t
 | .nil,_,_,_,_,_=>trivial
 | .cons h t,tag,I,R,ar,A=>by rw[eh,Bool.and_eq_true] at ar;rw[h6,Bool.or_eq_false_iff] at A;rcases R with⟨rfl,g1,g2⟩ | ⟨rfl,g1,g2⟩ | ⟨rfl,g1,g2⟩<;>exact⟨yO h _ I g1 ar.1 A.1,yO t _ I g2 ar.2 A.2⟩
 | .node k s n v p U,tag,I,R,ar,A=>by
  rw[h6,Bool.or_eq_false_iff] at A;rw[eh] at ar;obtain⟨_,ak,g | g | g⟩:=R
  ·rw[g.2.2];refine⟨?_,trivial⟩;by_cases h1:k=1
   ·subst h1;rw[FW g.2.1 (.inl rfl) ak];trivial
   ·rw[if_neg h1,if_neg r] at ar;exact yO p 3 I g.2.1 ar A.2
  ·rw[g.2.2.2.2];rw[if_neg r,if_neg r] at ar;exact⟨yO p 6 I g.2.2.2.1 ar A.2,trivial⟩
  ·have HY:=g.2.1;subst HY;rw[if_neg K,if_pos rfl] at ar;rw[g.2.2.1];exact⟨trivial,yO U 2 I g.2.2.2 ar (by simpa using A.1)⟩
 | .query e l w g h,tag,I,R,ar,A=>by
  obtain⟨_,ge,_,_,_,mU,il,_,jO⟩:=R;rw[eh,Bool.and_eq_true,decide_eq_true_eq] at ar;obtain⟨X,ar⟩:=ar;cases ak:hd td I l with
  | none=>rw[ak] at ar;cases ar
  | some bU=>
   rw[ak] at ar;simp only[Bool.and_eq_true] at ar;obtain⟨⟨⟨bM,b9⟩,dm⟩,nS⟩:=ar;rw[h6] at A;simp only[Bool.or_eq_false_iff] at A;obtain⟨⟨⟨cN,bL⟩,fS⟩,jg⟩:=A;rw[FU] at cN;rw[Jp] at fS;have amY:=FV h 4 jO K fS;refine⟨X,cN,fS,yO w 4 bU mU dm bL,yO h 4 bU jO nS amY,fun ig b8=>?_⟩;have rI:g=.nil:=by
    cases g with
    | nil=>rfl
    | cons=>cases b8
    | node=>cases b8
    | query=>cases b8
   subst rI;have c4:∀n∈elems e++wJ h,mx l .nil n=false:=fun n hm=>by
    have:=(List.any_eq_false.1 jg) n hm;simp only[Bool.not_eq_true,Bool.or_eq_false_iff,Bool.and_eq_false_iff] at this;rcases this.2 with aw | aw
    ·unfold wD at ig;rw[FU] at aw;rw[b8] at ig;simp only[Bool.not_true,Bool.false_or] at ig;obtain⟨⟨_,h1⟩,H⟩:=aw;rw[h1,H] at ig;cases ig
    ·exact aw
   refine⟨CJ l e 3 ge K (Xl l .nil e ge (fun n hm=>c4 n (List.mem_append_left _ hm))),?_⟩;rcases Hw jO with rfl | FP
   ·trivial
   ·refine CJ l h 1 FP K (c4 h (List.mem_append_right _ ?_));cases h with
    | nil=>simp[aJ] at FP
    | cons=>simp[wJ]
    | node=>simp[wJ]
    | query=>simp[wJ]
def aqD:(prog.info? 83).map (fun i=>(i.zero,i.size,i.bytes))=some (some (.pointer none),1,8):=ax
def at7(w:World):ey 91 #[.slice none 0 0,q 0] w (ov w (.slice none 0 0)):=by go_enter func91,ntmps91;go_wp2_with fail;go_ret;exact⟨rfl,rfl⟩
def at8(n:Nat)(w:World)(h1:1<=n)(ar:n<=1000000):ey 91 #[.slice none 0 0,q (n:Int)] w fun e w'=>∃G,e=.returned (.slice (some ⟨w.heap.size,0,none⟩) 0 G)/\w'.ownsRow w.heap.size 83 1 (.slice (some ⟨w.heap.size,0,none⟩) 0 G) 0 []/\eB w w':=by
 obtain⟨i0,hi,gj,gx,cd⟩:=info_parts aqD;have GX:(0:Int)<(n:Int):=r;have xZ:∀ty,(Builtin.append_ #[59,3] ty #[.slice none 0 0,q (n:Int)]).run prog w=.ok (.slice (some ⟨w.heap.size,0,none⟩) (0+n) (grownCap w (0+n) 0 83)) (w.drew.alloc (.cells (([]:List Value).toArray++Builtin.zeroCells (.pointer none:Value).cells n++Builtin.zeroCells (.pointer none:Value).cells (grownCap w (0+n) 0 83-(0+n))) 83)):=fun ty=>Lib.run_append_grow_zeros w 59 3 ty 83 i0 (.pointer none) .i64 .i64 underlying59 underlying3 hi gj none 0 0 [] (run_firstCells_none w.drew i0.size 0 0 0) n r r r r (by rw[cd];omega) (growslice_fits r (by rw[cd];omega))
 have DQ:0+n<=grownCap w (0+n) 0 83:=grownCap_ge w _ _ _;have x0:=grownCap_le_maxLen w (0+n) 0 83 (by unfold maxLen;omega);generalize grownCap w (0+n) 0 83=G at *;rw[ax1] at xZ DQ;have lS:(.pointer none:Value).cells.size=1:=rfl;have ff:(([]:List Value).toArray++Builtin.zeroCells (.pointer none:Value).cells n++Builtin.zeroCells (.pointer none:Value).cells (G-n)).size=G*1:=by rw[Array.size_append,Array.size_append,size_zeroCells,size_zeroCells,lS];simp;omega
 generalize ([]:List Value).toArray++Builtin.zeroCells (.pointer none:Value).cells n++Builtin.zeroCells (.pointer none:Value).cells (G-n)=ay at *;have GY:(G:Int)<=9223372036854775807:=by unfold maxLen at x0;omega
 have Sl:(n:Int)<=(G:Int):=r;go_enter func91,ntmps91;go_wp2_with (at_builtin;refine Lib.wpList_append_run _ rfl _ _ _ _ rfl _ _ rfl rfl _ _ (xZ _) ?_);all_goals
  go_ret;exact⟨G,rfl,World.ownsRow_made w.drew ay G ap x0 ff,((Below.refl _ w).drew).alloc ap _⟩
def at9(n:Nat)(w:World)(ar:n<=1000000):ey 91 #[.slice none 0 0,q (n:Int)] w fun e w'=>∃a G,e=.returned (.slice a 0 G)/\w'.ownsRow w.heap.size 83 1 (.slice a 0 G) 0 []/\eB w w':=by
 by_cases h:n=0
 ·subst h;refine(at7 w).mono ?_;rintro e w' ⟨rfl,rfl⟩;exact⟨none,0,rfl,World.ownsRow_nil _ _ _ _,Below.refl _ _⟩
 ·refine(at8 n w r ar).mono ?_;rintro e w' ⟨G,rfl,h1,H⟩;exact⟨_,G,rfl,h1,H⟩
def aua(hv:w.ownsRow base 83 1 v n xs)(hu:w.ownsRow 0 83 1 bp m ys)(h1:∀y∈ys,y.oneCell'=true)(ou:n+m<=10000000)(A:base<=w.heap.size):∃cF w',(∀ty,(Builtin.append_ #[59,59] ty #[v,bp]).run prog w=.ok cF w')/\w'.ownsRow base 83 1 cF (n+m) (xs++ys)/\w.grownBy w' v.ownBlock:=by
 obtain⟨i0,hi,gj,gx,cd⟩:=info_parts aqD;rcases hu.2 with⟨rfl,rfl⟩ | ⟨g,af,ay,rfl,_⟩
 ·have hy:ys=[]:=ma (by rw[hu.1,Nat.zero_mul]);subst hy;refine⟨v,w,fun ty=>run_append_owned_none w base _ ty _ i0 1 underlying59 hi v n xs hv,by simpa using hv,uQ _ _⟩
 ·have ai:=hu.cells rfl;obtain⟨cF,w',ag,H,ab,_⟩:=run_append_own (P:=prog) w base 59 59 83 i0 (.pointer none) 1 8 underlying59 hi gj gx cd rfl K v n xs hv ⟨g,0,none⟩ m af ys hu.1 ai h1 (by unfold maxLen;omega) r A;refine⟨cF,w',fun ty=>?_,H,ab⟩;have:Builtin.append_ #[59,59] ty #[v,.slice (some ⟨g,0,none⟩) m af]=Builtin.append_ #[59,59] 59 #[v,.slice (some ⟨g,0,none⟩) m af]:=rfl;rw[this];exact ag
def s3(a1:List (Value×Nat×List Value)):Nat:=(a1.map (·.2.1)).foldl (· + ·) 0
def JQ(a1:List (Value×Nat×List Value)):List Value:=a1.flatMap (·.2.2)
def aub(a1:List (Value×Nat×List Value))(s:Value×Nat×List Value):s3 (a1++[s])=s3 a1+s.2.1:=by unfold s3;rw[List.map_append,List.foldl_append];rfl
def auc(a1:List (Value×Nat×List Value))(s:Value×Nat×List Value):JQ (a1++[s])=JQ a1++s.2.2:=by unfold JQ;rw[List.flatMap_append];simp
def aud(a1:List (Value×Nat×List Value)):∀j,j<=a1.length->s3 (a1.take j)<=s3 a1:=by
 have h:∀(l:List Nat) (a:Nat),a<=l.foldl (· + ·) a:=fun l=>by
  induction l with
  | nil=>intro a;exact ap
  | cons x C aH=>intro a;exact bX (Nat.le_add_right a x) (aH (a+x))
 intro j aS;have e:a1.map (·.2.1)=(a1.take j).map (·.2.1)++(a1.drop j).map (·.2.1):=by rw[<-List.map_append,List.take_append_drop]
 unfold s3;rw[e,List.foldl_append];exact h _ _
def aue(sv:Value)(a1:List (Value×Nat×List Value))(w:World)(an:w.ownsRow 0 59 1 sv a1.length (a1.map (·.1)))(wM:∀s∈a1,w.ownsRow 0 83 1 s.1 s.2.1 s.2.2/\∀y∈s.2.2,y.oneCell'=true)(au:s3 a1<=1000000)(X:a1.length<=1000000):ey 52 #[sv] w fun e w'=>∃v,e=.returned v/\w'.ownsRow w.heap.size 83 1 v (s3 a1) (JQ a1)/\eB w w':=by
 obtain⟨eD,B8,rfl⟩:=cG an;have wN:=u (aud a1);have e9:Hid (∀W,eB w W->∀j (h:j<a1.length),∃g a c,eD=some ⟨g,0,none⟩/\a1[j].1=.slice a a1[j].2.1 c/\dp W g j=some (.slice a a1[j].2.1 c)):=u (fun W A j aS=>by
  have ag:=ee an A;obtain⟨a,c,e⟩:=cG (wM _ (ec aS)).1;rcases ag.2 with⟨_,aw⟩ | ⟨g,af,ay,Y,_⟩
  ·omega
  ·injection Y with Y _ _;subst Y;have:=ag.cells rfl j a1[j].1 (by rw[List.getElem?_map,fC aS];rfl);rw[Addr.add_lit,ax1,e] at this;exact⟨g,a,c,rfl,e,this⟩)
 have yk:Hid (∀W,eB w W->∀j (h:j<a1.length),W.ownsRow 0 83 1 a1[j].1 a1[j].2.1 a1[j].2.2/\∀y∈a1[j].2.2,y.oneCell'=true):=u (fun W A j aS=>⟨ee (wM _ (ec aS)).1 A,(wM _ (ec aS)).2⟩);have dy:=u au;have EU:Hid (∀j (h:j<a1.length),s3 (a1.take (j+1))=s3 (a1.take j)+a1[j].2.1/\JQ (a1.take (j+1))=JQ (a1.take j)++a1[j].2.2):=u (fun j aS=>by rw[jD aS];exact⟨aub _ _,auc _ _⟩);have bK:Hid (s3 (a1.take a1.length)=s3 a1/\JQ (a1.take a1.length)=JQ a1):=u (by rw[List.take_length];exact⟨rfl,rfl⟩);have Ai:Hid (s3 (a1.take 0)=0/\JQ (a1.take 0)=[]):=u ⟨rfl,rfl⟩;clear an wM au;go_enter func52,ntmps52;go_upto_block 0 with fail;go_cut [3] (fun aE wc=>aE=q (s3 a1:Int)/\wc=w);case first=>
  go_wp2_with fail;go_loopg [3,11] (a1.length+1) (fun U aE i wr=>∃j:Nat,j<=a1.length/\aE=q (s3 (a1.take j):Int)/\i=q (j:Int)/\wr=w/\a1.length-j<U);case atStart=>exact⟨0,bu,by rw[Ai.d.1];rfl,rfl,rfl,r⟩
  case round=>
   obtain⟨j,aS,rfl,rfl,fr,ae⟩:=hrel;subst fr;by_cases aD:j<a1.length
   ·have cL:(j:Int)<(a1.length:Int):=r;obtain⟨g,a,c,rfl,he,iV⟩:=e9.d wr (Below.refl _ _) j aD;obtain⟨nU,-⟩:=EU.d j aD;have hle:=wN.d (j+1) aD;have au:=dy.d;rw[nU] at hle;have q8:IntKind.i64.wrap ((s3 (a1.take j):Int)+(a1[j].2.1:Int))=(s3 (a1.take j):Int)+(a1[j].2.1:Int):=mC;have q9:IntKind.i64.wrap ((j:Int)+1)=(j:Int)+1:=mC;have dA:¬((s3 (a1.take j):Int)+(a1[j].2.1:Int)<0):=r;have bn:Hid (s3 (a1.take (j+1))=s3 (a1.take j)+a1[j].2.1):=u nU;have ch:=u ae;clear he nU hle ae au;generalize a1[j].2.1=N at *;generalize s3 (a1.take j)=T at *;go_wp2_with fail;have ae:=ch.d;go_roundg (a1.length-j);case measure=>omega
    case rel=>exact⟨j+1,r,by rw[bn.d];push_cast;rfl,by go_num,rfl,r⟩
   ·have eZ:j=a1.length:=r;subst eZ;have cL:(a1.length:Int)<=(a1.length:Int):=r;obtain⟨Y,am⟩:=bK.d;rw[Y];clear ae;go_wp2_with fail;go_meet;case rel=>exact⟨rfl,rfl⟩
 case rest=>
  obtain⟨rfl,uj⟩:=hcut;subst uj;obtain⟨fI,rfl⟩:∃x,x=wc:=⟨wc,rfl⟩;have Aj:=u (at9 (s3 a1) fI dy.d);go_upto_region 10 with(go_at_call 91;refine Aj.d.mono ?_;rintro e J ⟨bf,G,rfl,iF,bJ⟩);have qD:=u iF;have qN:=u bJ;clear iF bJ Aj;go_upto_region 11 with fail;go_loopg [6,27] (a1.length+1) (fun U b0 i wr=>∃j:Nat,j<=a1.length/\i=q (j:Int)/\Hid (wr.ownsRow fI.heap.size 83 1 b0 (s3 (a1.take j)) (JQ (a1.take j)))/\Hid (eB fI wr)/\a1.length-j<U);case atStart=>exact⟨0,bu,rfl,u (by rw[Ai.d.1,Ai.d.2];exact qD.d),qN,r⟩
  case round=>
   obtain⟨j,aS,rfl,ag,A,ae⟩:=hrel;by_cases aD:j<a1.length
   ·have cL:(j:Int)<(a1.length:Int):=r;obtain⟨g,a,c,rfl,he,iV⟩:=e9.d wr A.d j aD;obtain⟨aI,aZ⟩:=yk.d wr A.d j aD;obtain⟨nU,nN⟩:=EU.d j aD;have hle:=wN.d (j+1) aD;have au:=dy.d;rw[nU] at hle;obtain⟨v2,S,eN,ej,bC⟩:=aua ag.d aI aZ r A.d.size;rw[<-nU,<-nN] at ej;have ah:eB fI S:=A.d.grown bC A.d.size (fun k e=>(ag.d.lt k e).1);obtain⟨eL,rc,tP⟩:=cG ag.d;subst tP;obtain⟨aC,bA,rfl⟩:=cG ej;rw[he] at eN;have gJ:=u eN;have M3:=u ej;have gS:=u ah;have q9:IntKind.i64.wrap ((j:Int)+1)=(j:Int)+1:=mC;have ch:=u ae;clear he nU nN hle ae au aI aZ eN ej ah bC;generalize a1[j].2.1=N at *;generalize tF:s3 (a1.take (j+1))=Dr at *;have M4:=u tF;clear tF;generalize s3 (a1.take j)=T at *
    go_wp2_with (at_builtin;refine Lib.wpList_append_run _ rfl _ _ _ _ rfl _ _ rfl rfl _ _ (gJ.d _) ?_);have ae:=ch.d;go_roundg (a1.length-j);case measure=>omega
    case rel=>exact⟨j+1,r,by go_num,u (by rw[M4.d];exact M3.d),gS,r⟩
   ·have eZ:j=a1.length:=r;subst eZ;have cL:(a1.length:Int)<=(a1.length:Int):=r;have bj:Hid (wr.ownsRow fI.heap.size 83 1 _ (s3 a1) (JQ a1)):=u (by have:=ag.d;rw[bK.d.1,bK.d.2] at this;exact this);clear ae;go_wp2_with fail;go_ret;exact⟨_,rfl,bj.d,A.d⟩
def Xm:(prog.info? 115).map (fun i=>(i.zero,i.size,i.bytes))=some (some (.agg #[q 0,.slice none 0 0]),2,32):=ax
def amZ(w:World):ey 84 #[.slice none 0 0,q 0] w (ov w (.slice none 0 0)):=by go_enter func84,ntmps84;go_wp2_with fail;go_ret;exact⟨rfl,rfl⟩
def am0(n:Nat)(w:World)(h1:1<=n)(ar:n<=1000000):ey 84 #[.slice none 0 0,q (n:Int)] w fun e w'=>∃G,e=.returned (.slice (some ⟨w.heap.size,0,none⟩) 0 G)/\w'.ownsRow w.heap.size 115 2 (.slice (some ⟨w.heap.size,0,none⟩) 0 G) 0 []/\eB w w':=by
 obtain⟨i0,hi,gj,gx,cd⟩:=info_parts Xm;have GX:(0:Int)<(n:Int):=r;have xZ:∀ty,(Builtin.append_ #[60,3] ty #[.slice none 0 0,q (n:Int)]).run prog w=.ok (.slice (some ⟨w.heap.size,0,none⟩) (0+n) (grownCap w (0+n) 0 115)) (w.drew.alloc (.cells (([]:List Value).toArray++Builtin.zeroCells (.agg #[q 0,.slice none 0 0]:Value).cells n++Builtin.zeroCells (.agg #[q 0,.slice none 0 0]:Value).cells (grownCap w (0+n) 0 115-(0+n))) 115)):=fun ty=>Lib.run_append_grow_zeros w 60 3 ty 115 i0 (.agg #[q 0,.slice none 0 0]) .i64 .i64 underlying60 underlying3 hi gj none 0 0 [] (run_firstCells_none w.drew i0.size 0 0 0) n r r r r (by rw[cd];omega) (growslice_fits r (by rw[cd];omega))
 have DQ:0+n<=grownCap w (0+n) 0 115:=grownCap_ge w _ _ _;have x0:=grownCap_le_maxLen w (0+n) 0 115 (by unfold maxLen;omega);generalize grownCap w (0+n) 0 115=G at *;rw[ax1] at xZ DQ;have lS:(.agg #[q 0,.slice none 0 0]:Value).cells.size=2:=rfl;have ff:(([]:List Value).toArray++Builtin.zeroCells (.agg #[q 0,.slice none 0 0]:Value).cells n++Builtin.zeroCells (.agg #[q 0,.slice none 0 0]:Value).cells (G-n)).size=G*2:=by rw[Array.size_append,Array.size_append,size_zeroCells,size_zeroCells,lS];simp;omega
 generalize ([]:List Value).toArray++Builtin.zeroCells (.agg #[q 0,.slice none 0 0]:Value).cells n++Builtin.zeroCells (.agg #[q 0,.slice none 0 0]:Value).cells (G-n)=ay at *;have GY:(G:Int)<=9223372036854775807:=by unfold maxLen at x0;omega
 have Sl:(n:Int)<=(G:Int):=r;go_enter func84,ntmps84;go_wp2_with (at_builtin;refine Lib.wpList_append_run _ rfl _ _ _ _ rfl _ _ rfl rfl _ _ (xZ _) ?_);all_goals
  go_ret;exact⟨G,rfl,World.ownsRow_made w.drew ay G ap x0 ff,((Below.refl _ w).drew).alloc ap _⟩
def am1(n:Nat)(w:World)(ar:n<=1000000):ey 84 #[.slice none 0 0,q (n:Int)] w fun e w'=>∃a G,e=.returned (.slice a 0 G)/\w'.ownsRow w.heap.size 115 2 (.slice a 0 G) 0 []/\eB w w':=by
 by_cases h:n=0
 ·subst h;refine(amZ w).mono ?_;rintro e w' ⟨rfl,rfl⟩;exact⟨none,0,rfl,World.ownsRow_nil _ _ _ _,Below.refl _ _⟩
 ·refine(am0 n w r ar).mono ?_;rintro e w' ⟨G,rfl,h1,H⟩;exact⟨_,G,rfl,h1,H⟩
def am2(hv:w.ownsRow base 115 2 v n xs)(hu:w.ownsRow 0 115 2 bp m ys)(h1:∀y∈ys,y.oneCell'=true)(ou:n+m<=10000000)(A:base<=w.heap.size):∃cF w',(∀ty,(Builtin.append_ #[60,60] ty #[v,bp]).run prog w=.ok cF w')/\w'.ownsRow base 115 2 cF (n+m) (xs++ys)/\w.grownBy w' v.ownBlock:=by
 obtain⟨i0,hi,gj,gx,cd⟩:=info_parts Xm;rcases hu.2 with⟨rfl,rfl⟩ | ⟨g,af,ay,rfl,_⟩
 ·have hy:ys=[]:=ma (by rw[hu.1,Nat.zero_mul]);subst hy;refine⟨v,w,fun ty=>run_append_owned_none w base _ ty _ i0 2 underlying60 hi v n xs hv,by simpa using hv,uQ _ _⟩
 ·have ai:=hu.cells rfl;obtain⟨cF,w',ag,H,ab,_⟩:=run_append_own (P:=prog) w base 60 60 115 i0 (.agg #[q 0,.slice none 0 0]) 2 32 underlying60 hi gj gx cd rfl K v n xs hv ⟨g,0,none⟩ m af ys hu.1 ai h1 (by unfold maxLen;omega) r A;refine⟨cF,w',fun ty=>?_,H,ab⟩;have:Builtin.append_ #[60,60] ty #[v,.slice (some ⟨g,0,none⟩) m af]=Builtin.append_ #[60,60] 60 #[v,.slice (some ⟨g,0,none⟩) m af]:=rfl;rw[this];exact ag
def jV(a1:List (Value×Nat×List Value)):Nat:=(a1.map (·.2.1)).foldl (· + ·) 0
def r3(a1:List (Value×Nat×List Value)):List Value:=a1.flatMap (·.2.2)
def am3(a1:List (Value×Nat×List Value))(s:Value×Nat×List Value):jV (a1++[s])=jV a1+s.2.1:=by unfold jV;rw[List.map_append,List.foldl_append];rfl
def am4(a1:List (Value×Nat×List Value))(s:Value×Nat×List Value):r3 (a1++[s])=r3 a1++s.2.2:=by unfold r3;rw[List.flatMap_append];simp
def am5(a1:List (Value×Nat×List Value)):∀j,j<=a1.length->jV (a1.take j)<=jV a1:=by
 have h:∀(l:List Nat) (a:Nat),a<=l.foldl (· + ·) a:=fun l=>by
  induction l with
  | nil=>intro a;exact ap
  | cons x C aH=>intro a;exact bX (Nat.le_add_right a x) (aH (a+x))
 intro j aS;have e:a1.map (·.2.1)=(a1.take j).map (·.2.1)++(a1.drop j).map (·.2.1):=by rw[<-List.map_append,List.take_append_drop]
 unfold jV;rw[e,List.foldl_append];exact h _ _
def am6(sv:Value)(a1:List (Value×Nat×List Value))(w:World)(an:w.ownsRow 0 60 1 sv a1.length (a1.map (·.1)))(wM:∀s∈a1,w.ownsRow 0 115 2 s.1 s.2.1 s.2.2/\∀y∈s.2.2,y.oneCell'=true)(au:jV a1<=1000000)(X:a1.length<=1000000):ey 49 #[sv] w fun e w'=>∃v,e=.returned v/\w'.ownsRow w.heap.size 115 2 v (jV a1) (r3 a1)/\eB w w':=by
 obtain⟨eD,B8,rfl⟩:=cG an;have wN:=u (am5 a1);have e9:Hid (∀W,eB w W->∀j (h:j<a1.length),∃g a c,eD=some ⟨g,0,none⟩/\a1[j].1=.slice a a1[j].2.1 c/\dp W g j=some (.slice a a1[j].2.1 c)):=u (fun W A j aS=>by
  have ag:=ee an A;obtain⟨a,c,e⟩:=cG (wM _ (ec aS)).1;rcases ag.2 with⟨_,aw⟩ | ⟨g,af,ay,Y,_⟩
  ·omega
  ·injection Y with Y _ _;subst Y;have:=ag.cells rfl j a1[j].1 (by rw[List.getElem?_map,fC aS];rfl);rw[Addr.add_lit,ax1,e] at this;exact⟨g,a,c,rfl,e,this⟩)
 have yk:Hid (∀W,eB w W->∀j (h:j<a1.length),W.ownsRow 0 115 2 a1[j].1 a1[j].2.1 a1[j].2.2/\∀y∈a1[j].2.2,y.oneCell'=true):=u (fun W A j aS=>⟨ee (wM _ (ec aS)).1 A,(wM _ (ec aS)).2⟩);have dy:=u au;have EU:Hid (∀j (h:j<a1.length),jV (a1.take (j+1))=jV (a1.take j)+a1[j].2.1/\r3 (a1.take (j+1))=r3 (a1.take j)++a1[j].2.2):=u (fun j aS=>by rw[jD aS];exact⟨am3 _ _,am4 _ _⟩);have bK:Hid (jV (a1.take a1.length)=jV a1/\r3 (a1.take a1.length)=r3 a1):=u (by rw[List.take_length];exact⟨rfl,rfl⟩);have Ai:Hid (jV (a1.take 0)=0/\r3 (a1.take 0)=[]):=u ⟨rfl,rfl⟩;clear an wM au;go_enter func49,ntmps49;go_upto_block 0 with fail;go_cut [3] (fun aE wc=>aE=q (jV a1:Int)/\wc=w);case first=>
  go_wp2_with fail;go_loopg [3,11] (a1.length+1) (fun U aE i wr=>∃j:Nat,j<=a1.length/\aE=q (jV (a1.take j):Int)/\i=q (j:Int)/\wr=w/\a1.length-j<U);case atStart=>exact⟨0,bu,by rw[Ai.d.1];rfl,rfl,rfl,r⟩
  case round=>
   obtain⟨j,aS,rfl,rfl,fr,ae⟩:=hrel;subst fr;by_cases aD:j<a1.length
   ·have cL:(j:Int)<(a1.length:Int):=r;obtain⟨g,a,c,rfl,he,iV⟩:=e9.d wr (Below.refl _ _) j aD;obtain⟨nU,-⟩:=EU.d j aD;have hle:=wN.d (j+1) aD;have au:=dy.d;rw[nU] at hle;have q8:IntKind.i64.wrap ((jV (a1.take j):Int)+(a1[j].2.1:Int))=(jV (a1.take j):Int)+(a1[j].2.1:Int):=mC;have q9:IntKind.i64.wrap ((j:Int)+1)=(j:Int)+1:=mC;have dA:¬((jV (a1.take j):Int)+(a1[j].2.1:Int)<0):=r;have bn:Hid (jV (a1.take (j+1))=jV (a1.take j)+a1[j].2.1):=u nU;have ch:=u ae;clear he nU hle ae au;generalize a1[j].2.1=N at *;generalize jV (a1.take j)=T at *;go_wp2_with fail;have ae:=ch.d;go_roundg (a1.length-j);case measure=>omega
    case rel=>exact⟨j+1,r,by rw[bn.d];push_cast;rfl,by go_num,rfl,r⟩
   ·have eZ:j=a1.length:=r;subst eZ;have cL:(a1.length:Int)<=(a1.length:Int):=r;obtain⟨Y,am⟩:=bK.d;rw[Y];clear ae;go_wp2_with fail;go_meet;case rel=>exact⟨rfl,rfl⟩
 case rest=>
  obtain⟨rfl,uj⟩:=hcut;subst uj;obtain⟨fI,rfl⟩:∃x,x=wc:=⟨wc,rfl⟩;have Aj:=u (am1 (jV a1) fI dy.d);go_upto_region 10 with(go_at_call 84;refine Aj.d.mono ?_;rintro e J ⟨bf,G,rfl,iF,bJ⟩);have qD:=u iF;have qN:=u bJ;clear iF bJ Aj;go_upto_region 11 with fail;go_loopg [6,27] (a1.length+1) (fun U b0 i wr=>∃j:Nat,j<=a1.length/\i=q (j:Int)/\Hid (wr.ownsRow fI.heap.size 115 2 b0 (jV (a1.take j)) (r3 (a1.take j)))/\Hid (eB fI wr)/\a1.length-j<U);case atStart=>exact⟨0,bu,rfl,u (by rw[Ai.d.1,Ai.d.2];exact qD.d),qN,r⟩
  case round=>
   obtain⟨j,aS,rfl,ag,A,ae⟩:=hrel;by_cases aD:j<a1.length
   ·have cL:(j:Int)<(a1.length:Int):=r;obtain⟨g,a,c,rfl,he,iV⟩:=e9.d wr A.d j aD;obtain⟨aI,aZ⟩:=yk.d wr A.d j aD;obtain⟨nU,nN⟩:=EU.d j aD;have hle:=wN.d (j+1) aD;have au:=dy.d;rw[nU] at hle;obtain⟨v2,S,eN,ej,bC⟩:=am2 ag.d aI aZ r A.d.size;rw[<-nU,<-nN] at ej;have ah:eB fI S:=A.d.grown bC A.d.size (fun k e=>(ag.d.lt k e).1);obtain⟨eL,rc,tP⟩:=cG ag.d;subst tP;obtain⟨aC,bA,rfl⟩:=cG ej;rw[he] at eN;have gJ:=u eN;have M3:=u ej;have gS:=u ah;have q9:IntKind.i64.wrap ((j:Int)+1)=(j:Int)+1:=mC;have ch:=u ae;clear he nU nN hle ae au aI aZ eN ej ah bC;generalize a1[j].2.1=N at *;generalize tF:jV (a1.take (j+1))=Dr at *;have M4:=u tF;clear tF;generalize jV (a1.take j)=T at *
    go_wp2_with (at_builtin;refine Lib.wpList_append_run _ rfl _ _ _ _ rfl _ _ rfl rfl _ _ (gJ.d _) ?_);have ae:=ch.d;go_roundg (a1.length-j);case measure=>omega
    case rel=>exact⟨j+1,r,by go_num,u (by rw[M4.d];exact M3.d),gS,r⟩
   ·have eZ:j=a1.length:=r;subst eZ;have cL:(a1.length:Int)<=(a1.length:Int):=r;have bj:Hid (wr.ownsRow fI.heap.size 115 2 _ (jV a1) (r3 a1)):=u (by have:=ag.d;rw[bK.d.1,bK.d.2] at this;exact this);clear ae;go_wp2_with fail;go_ret;exact⟨_,rfl,bj.d,A.d⟩
