import Derived.Test.YtjebdgbpopolkaaGreatDoorM014
import Derived.Test.YtjebdgbpopolkaaGreatDoorM016
set_option maxHeartbeats 0
set_option maxRecDepth 100000
set_option linter.all false
namespace Go.Proofs.YtjebdgbpopolkaaGreatDoor
open Tryz
open Go.RowKit
open bS
variable{w w':World}{N b i k last n U:Nat}{fl b0 aE:Value}{F:Nat->Prop}{t:bG}{c:Nat->Nat}{g:hG}{bs:List Nat}{l:List (e6×Nat)}{ba:e4}{m:Int}{bl:e6}{s:List UInt8}
def sC(w:World)(b:Nat)(name:e6)(fl b0:Value)(last:Nat):Prop:=w.heap[b]?=some (.cells #[.string name,fl,b0,q (last:Int)] 137 (0,0))
def sC.aeI{name:e6}(h:sC w b name fl b0 last)(n:Nat):sC (w.setCell ⟨b,3,none⟩ (q (n:Int))) b name fl b0 n:=by have cC:w.heap[b]?=some (.cells #[.string name,fl,b0,q (last:Int)] 137 (0,0)):=h;show(w.setCell ⟨b,3,none⟩ (q (n:Int))).heap[b]?=_;simp[World.setCell,Array.getElem?_modify,cC]
def sC.A5{name:e6}(h:sC w b name fl b0 last)(C0:Value):sC (w.setCell ⟨b,2,none⟩ C0) b name fl C0 last:=by have cC:w.heap[b]?=some (.cells #[.string name,fl,b0,q (last:Int)] 137 (0,0)):=h;show(w.setCell ⟨b,2,none⟩ C0).heap[b]?=_;simp[World.setCell,Array.getElem?_modify,cC]
def D7:(prog.info? 115).map (fun i=>(i.zero,i.size,i.bytes))=some (some (.agg #[q 0,.slice none 0 0]),2,32):=ax
def sD{lo size:Nat}{e T:TypeId}{v:Value}{xs:List Value}{cs:Array Value}(an:w.ownsRow lo e size v n xs)(h:w.heap[k]?=some (.cells cs T (0,0)))(bi:T≠e):v.ownBlock≠some k:=by
 rcases an.2 with⟨rfl,_⟩ | ⟨g,af,ay,rfl,_,ed,_⟩
 ·simp[Value.ownBlock]
 ·intro bo;simp[Value.ownBlock] at bo;subst bo;rw[h] at ed;simp at ed;exact bi ed.2
def S1(w:World)(lo b:Nat)(name:e6)(fl b0:Value)(last n:Nat)(xs:List Value)(l:List al)(e:Ending)(w':World):Prop:=e=.returned (.tuple #[q ((last+1:Nat):Int),q 0])/\∃k C0,w.heap.size<=k/\w'.ownsRow w.heap.size 112 3 (.slice (some ⟨k,0,none⟩) l.length l.length) l.length (fc l)/\sC w' b name fl C0 (last+1)/\w'.ownsRow lo 115 2 C0 (n+1) (xs++[q ((last+1:Nat):Int),.slice (some ⟨k,0,none⟩) l.length l.length])/\(∀U,C0.ownBlock=some U->b0.ownBlock=some U\/w.heap.size<=U)/\da (fun U=>U=b\/b0.ownBlock=some U) w w'
def BK(c:Nat)(w:World)(e:Ending)(w':World):Prop:=e=.returned (.tuple #[q 0,q (c:Int)])/\eB w w'
def aeJ(ty full:Bool)(aB bB eF:Ending->World->Prop):Ending->World->Prop:=match ty,full with
 | false,_=>aB
 | true,true=>bB
 | true,false=>eF
section
variable (lo b g af gc jw:Nat) (name:e6) (b0:Value) (last n:Nat) (xs:List Value) (cs:List (e6×Nat)) (ba:e4) (w:World) (h:sC w b name (.slice (some ⟨gc,0,none⟩) cs.length jw) b0 last) (x7:w.ownsRow 0 130 2 (.slice (some ⟨gc,0,none⟩) cs.length jw) cs.length (mO cs)) (an:w.ownsRow lo 115 2 b0 n xs) (eI:lo<=w.heap.size) (ar:n<=1000) (wx:last<=1000000000) (j2:cs.length<=1000) (hv:zG w g ba) (R:g<w.heap.size) (X:ba.length<=2000000) (hs:∀t∈ba,t.size<=2000000)
include h x7 an eI ar wx j2 hv R X hs
omit x7 an eI ar wx in
def S2(hm:(if ba.length=cs.length then iq bS.valOf ba else none)=none):ey 34 #[M b,.slice (some ⟨g,0,none⟩) ba.length af] w (BK 1 w):=by have hu:w.heap[b]?=some (.cells #[.string name,.slice (some ⟨gc,0,none⟩) cs.length jw,b0,q (last:Int)] 137 (0,0)):=h;have sB:=u (SQ b g af cs.length jw _ ba w (Z hu (i:=1) rfl) hv R X j2 hs);unfold LA at sB;rw[hm] at sB;clear hm hv hs;go_enter func34,ntmps34;go_wp2_with (go_at_call 58;refine sB.d.mono ?_;rintro e S ⟨rfl,ah⟩);go_ret2;exact⟨rfl,ah⟩
def aeK(l:List al)(hm:(if ba.length=cs.length then iq bS.valOf ba else none)=some l)(ty:Bool)(D8:q7 l cs=ty)(full:Bool)(VB:decide (20<=n)=full):ey 34 #[M b,.slice (some ⟨g,0,none⟩) ba.length af] w (aeJ ty full (BK 5 w) (BK 7 w) (S1 w lo b name (.slice (some ⟨gc,0,none⟩) cs.length jw) b0 last n xs l)):=by
 obtain⟨i0,hi,gj,gx,cd⟩:=info_parts D7;have hu:w.heap[b]?=some (.cells #[.string name,.slice (some ⟨gc,0,none⟩) cs.length jw,b0,q (last:Int)] 137 (0,0)):=h;have cY:b<w.heap.size:=(br hu).1;have sB:=u (SQ b g af cs.length jw _ ba w (Z hu (i:=1) rfl) hv R X j2 hs);obtain⟨eL,fm,rfl⟩:=cG an;unfold LA at sB;rw[hm] at sB;have Hp:Hid (l.length=cs.length):=u (by
  split at hm
  ·rename_i e;rw[<-e];exact Be _ _ _ hm
  ·cases hm)
 have aeL:l.length<=1000:=by have:=Hp.d;omega
 clear hm hv hs;go_enter func34,ntmps34;go_wp2_with (go_at_call 58;refine sB.d.mono ?_;rintro e S ⟨⟨k,hk,rfl,Hq⟩,ah⟩);have Hr:=(ah.block b cY).trans hu;have S3:b<S.heap.size:=(br Hr).1;have LH:=u (aeo b k l.length gc jw l cs S S3 Hp.d aeL (Z Hr (i:=1) rfl) (ee x7 ah) (ei bu Hq));rw[D8] at LH;clear D8;refine LH.d.mono ?_;rintro e aA ⟨rfl,cg⟩;have z2:=ah.size;have Hs:=ah.trans (cg.mono z2);have BL:=(cg.block b S3).trans Hr;have ie:=ee an Hs;have LI:=ee Hq cg;have z3:=cg.size;have c2:dp aA b 2=some (.slice eL n fm):=Z BL (i:=2) rfl;have aeM:k<aA.heap.size:=(LI.lt k rfl).2;clear LH sB hu Hr x7 an h;cases ty
 ·go_wp2_with fail;go_ret2;exact(show BK 5 w _ _ from⟨rfl,Hs⟩)
 ·cases full
  ·have aeN:(n:Int)<20:=by have:=of_decide_eq_false VB;omega
   clear VB;have dZ:dp aA b 3=some (q (last:Int)):=Z BL (i:=3) rfl;have f3:aA.frozen? ⟨b,3,none⟩=false:=aQ BL;have arU:b<aA.heap.size:=(br BL).1;have fr:IntKind.i64.wrap ((last:Int)+1)=(last:Int)+1:=mC;have S4:((last+1:Nat):Int)=(last:Int)+1:=r;have ab:sC aA b name (.slice (some ⟨gc,0,none⟩) cs.length jw) (.slice eL n fm) last:=BL;have tS:(Value.slice eL n fm).ownBlock≠some b:=sD ie BL K;have LJ:=u (ab.aeI (last+1));have qD:=u (ownsRow_setCell_other ie tS (q ((last+1:Nat):Int)):(aA.setCell ⟨b,3,none⟩ (q ((last+1:Nat):Int))).ownsRow lo 115 2 (.slice eL n fm) n xs)
   have x9:Hid (∀U,U<aA.heap.size->U≠b->(aA.setCell ⟨b,3,none⟩ (q ((last+1:Nat):Int))).heap[U]?=aA.heap[U]?):=u (fun U _ ae=>Below.heap_setCell _ _ _ U ae);have wy:Hid ((aA.setCell ⟨b,3,none⟩ (q ((last+1:Nat):Int))).heap.size=aA.heap.size):=u (by simp[World.setCell]);have aeO:Hid (da (fun U=>U=b\/(Value.slice eL n fm).ownBlock=some U) aA (aA.setCell ⟨b,3,none⟩ (q ((last+1:Nat):Int)))):=u (da.set b 3 _ (.inl rfl));go_upto_region 9 with fail;rw[<-S4];generalize aA.setCell ⟨b,3,none⟩ (q ((last+1:Nat):Int))=W at *;have am:dp W b 2=some (.slice eL n fm):=Z LJ.d (i:=2) rfl;have bm:dp W b 3=some (q ((last+1:Nat):Int)):=Z LJ.d (i:=3) rfl;have iF:=qD.d;clear c2 dZ f3;have arV:b<W.heap.size:=by have:=wy.d;omega
   generalize S5:((last+1:Nat):Int)=S6 at *;have HU:=u S5;clear S5 S4 fr
   go_region_law (refine step_append_lies _ (by rfl) _ _ 60 (by rfl) lo 115 i0 (.agg #[q 0,.slice none 0 0]) 2 32 underlying60 hi gj gx cd rfl K (.slice eL n fm) n xs (by rfl) (iF.alloc _) ⟨W.heap.size,0,none⟩ 1 1 [q S6,.slice (some ⟨k,0,none⟩) l.length l.length] (by rfl) (by rfl) (J9 _ _ _ _) (by simp[Value.oneCell']) K (by unfold maxLen;omega) r (by have:=wy.d;simp;omega) (W.heap.size+1) (by simp) ?_;intro g5 ml bh py jE tc xu;have iR:bh.heap[b]?=some (.cells #[.string name,.slice (some ⟨gc,0,none⟩) cs.length jw,.slice eL n fm,q S6] 137 (0,0)):=(jE.block b (by have:=wy.d;simp;omega) (fun e=>tS e.symm)).trans ((Below.heap_alloc W _ b (by have:=wy.d;omega)).trans (by have:=LJ.d;unfold sC at this;rw[HU.d] at this;exact this));have d2:=Z iR (i:=2) rfl;have Qk:=aQ (i:=2) iR)
   all_goals
    have lX:sC bh b name (.slice (some ⟨gc,0,none⟩) cs.length jw) (.slice eL n fm) (last+1):=by unfold sC;rw[HU.d];exact iR
    have iE:=wy.d;have z5:w.heap.size<=bh.heap.size:=by have:=jE.size;simp at this;omega
    have jI:=py;rw[<-HU.d] at jI;have LK:=sD jI iR K;have S7:∀U,U<aA.heap.size->U≠b->(Value.slice eL n fm).ownBlock≠some U->(bh.setCell ⟨b,2,none⟩ (.slice (some ⟨g5,0,none⟩) (n+1) ml)).heap[U]?=aA.heap[U]?:=fun U ae xB aeP=>(Below.heap_setCell _ _ _ U xB).trans ((jE.block U (by simp;omega) (fun e=>aeP e.symm)).trans ((Below.heap_alloc W _ U r).trans (x9.d U ae xB)));have X6:da (fun U=>U=b\/(Value.slice eL n fm).ownBlock=some U) w (bh.setCell ⟨b,2,none⟩ (.slice (some ⟨g5,0,none⟩) (n+1) ml)):=(((da.of Hs).andThen aeO.d).andThen ((da.of (cT.drew)).andThen (da.grown jE (fun k e=>.inr e)))).andThen (da.set b 2 _ (.inl rfl));have aeQ:w.heap.size<=(bh.setCell ⟨b,2,none⟩ (.slice (some ⟨g5,0,none⟩) (n+1) ml)).heap.size:=by simpa [World.setCell] using z5
    have D9:=lX.A5 (.slice (some ⟨g5,0,none⟩) (n+1) ml);have D5:(bh.setCell ⟨b,2,none⟩ (.slice (some ⟨g5,0,none⟩) (n+1) ml)).ownsRow lo 115 2 (.slice (some ⟨g5,0,none⟩) (n+1) ml) (n+1) (xs++[q ((last+1:Nat):Int),.slice (some ⟨k,0,none⟩) l.length l.length]):=ownsRow_setCell_other jI LK _;have S8:(bh.setCell ⟨b,2,none⟩ (.slice (some ⟨g5,0,none⟩) (n+1) ml)).ownsRow w.heap.size 112 3 (.slice (some ⟨k,0,none⟩) l.length l.length) l.length (fc l):=by
     refine⟨LI.1,?_⟩;rcases LI.2 with⟨e,_⟩ | ⟨dM,cJ,ay,e,ef,ed,rest⟩
     ·cases e
     ·obtain rfl:k=dM:=by simpa using (Value.slice.inj e).1
      refine .inr ⟨k,cJ,ay,e,ef,(S7 k aeM r (sD ie ed K)).trans ed,rest⟩
    have fs:∀U,(Value.slice (some ⟨g5,0,none⟩) (n+1) ml).ownBlock=some U->(Value.slice eL n fm).ownBlock=some U\/w.heap.size<=U:=fun U ae=>by
     obtain rfl:g5=U:=by simpa [Value.ownBlock] using ae
     rcases tc with h | h
     ·exact .inl h
     ·exact .inr r
    have nw:=Z D9 (i:=3) rfl;have zK:Hid (S1 w lo b name (.slice (some ⟨gc,0,none⟩) cs.length jw) (.slice eL n fm) last n xs l (.returned (.tuple #[q ((last+1:Nat):Int),q 0])) (bh.setCell ⟨b,2,none⟩ (.slice (some ⟨g5,0,none⟩) (n+1) ml))):=u ⟨rfl,k,_,hk,S8,D9,D5,fs,X6⟩;clear iE D9 D5 S8 S7 aeQ fs X6 lX jI py iR d2 Qk;go_wp2_with fail;go_ret2;exact zK.d
  ·have aeN:(20:Int)<=(n:Int):=by have:=of_decide_eq_true VB;omega
   clear VB;go_wp2_with fail;go_ret2;exact(show BK 7 w _ _ from⟨rfl,Hs⟩)
end
def dk(F:Nat->Prop)(w:World):List (Nat×Value)->je->Prop
 | [],[]=>True
 | a::C,b::s=>(a.1=b.1/\eg F w 112 3 a.2 b.2.length (fc b.2))/\dk F w C s
 | _,_=>False
def dk.len{F:Nat->Prop}{w:World}:∀{rs:List (Nat×Value)} {l:je},dk F w rs l->rs.length=l.length
 | [],[],_=>rfl
 | _::_,_::_,h=>by rw[di,di,dk.len h.2]
 | [],_::_,h=>h.elim
 | _::_,[],h=>h.elim
def dk.move{F F':Nat->Prop}{w w':World}(m:dj F F' w w'):∀{rs:List (Nat×Value)} {l:je},dk F w rs l->dk F' w' rs l
 | [],[],_=>trivial
 | _::_,_::_,h=>⟨⟨h.1.1,h.1.2.move m⟩,dk.move m h.2⟩
 | [],_::_,h=>h.elim
 | _::_,[],h=>h.elim
def dk.snoc{F:Nat->Prop}{w:World}{a:Nat×Value}{b:Nat×List al}(h1:a.1=b.1)(H:eg F w 112 3 a.2 b.2.length (fc b.2)):∀{rs:List (Nat×Value)} {l:je},dk F w rs l->dk F w (rs++[a]) (l++[b])
 | [],[],_=>⟨⟨h1,H⟩,trivial⟩
 | _::_,_::_,h=>⟨h.1,dk.snoc h1 H h.2⟩
 | [],_::_,h=>h.elim
 | _::_,[],h=>h.elim
def dk.erase{F:Nat->Prop}{w:World}:∀{rs:List (Nat×Value)} {l:je} (i:Nat),dk F w rs l->dk F w (rs.eraseIdx i) (l.eraseIdx i)
 | [],[],_,_=>trivial
 | _::_,_::_,0,h=>h.2
 | _::_,_::_,i+1,h=>⟨h.1,dk.erase i h.2⟩
 | [],_::_,_,h=>h.elim
 | _::_,[],_,h=>h.elim
def dk.find{F:Nat->Prop}{w:World}(m:Int):∀{rs:List (Nat×Value)} {l:je},dk F w rs l->rs.findIdx? (fun C=>(C.1:Int)==m)=l.findIdx? (fun C=>(C.1:Int)==m)
 | [],[],_=>rfl
 | _::_,_::_,h=>by rw[List.findIdx?_cons,List.findIdx?_cons,h.1.1,dk.find m h.2]
 | [],_::_,h=>h.elim
 | _::_,[],h=>h.elim
def dk.one{F:Nat->Prop}{w:World}:∀{rs:List (Nat×Value)} {l:je},dk F w rs l->∀bp∈cQ rs,bp.oneCell'=true
 | [],[],_,bp,hu=>by simp[cQ] at hu
 | a::C,_::_,h,bp,hu=>by
  have e:cQ (a::C)=q (a.1:Int)::a.2::cQ C:=by simp[cQ]
  rw[e] at hu;rcases List.mem_cons.1 hu with rfl | hu
  ·rfl
  ·rcases List.mem_cons.1 hu with rfl | hu
   ·obtain⟨x,c,e⟩:=h.1.2.shape;rw[e];rfl
   ·exact dk.one h.2 bp hu
 | [],_::_,h,_,_=>h.elim
 | _::_,[],h,_,_=>h.elim
def iW(F:Nat->Prop)(w:World)(b:Nat)(t:bG):Prop:=∃fl b0 rs,jn F w b #[.string t.name,fl,b0,q (t.last:Int)] 137/\eg F w 130 2 fl t.bl.length (mO t.bl)/\eg F w 115 2 b0 t.ad.length (cQ rs)/\dk F w rs t.ad
def iW.move{F F':Nat->Prop}{w w':World}{b:Nat}{t:bG}(h:iW F w b t)(m:dj F F' w w'):iW F' w' b t:=by obtain⟨fl,b0,rs,h1,H,ab,aK⟩:=h;exact⟨fl,b0,rs,h1.move m,H.move m,ab.move m,aK.move m⟩
def iW.lt{F:Nat->Prop}{w:World}{b:Nat}{t:bG}(h:iW F w b t):b<w.heap.size:=by obtain⟨fl,b0,rs,h1,_⟩:=h;exact h1.lt
structure sE (N:Nat) (t:bG):Prop where
 c1:1<=t.bl.length
 gp:t.bl.length<=4
 Ea:t.ad.length<=20
 last:t.last<=N
 o8:∀c∈t.bl,c.2=1\/c.2=2
def iW.insert(h:iW F w b t)(ok:sE N t)(cS:N<=1000000000)(g af:Nat)(ba:e4)(hv:zG w g ba)(R:g<w.heap.size)(X:ba.length<=2000000)(hs:∀t∈ba,t.size<=2000000):ey 34 #[M b,.slice (some ⟨g,0,none⟩) ba.length af] w fun e w'=>e=.returned (.tuple #[q ((od t ba).1:Int),q ((od t ba).2.1:Int)])/\iW (db F w) w' b (od t ba).2.2/\da F w w':=by
 obtain⟨fl,b0,rs,h1,H,ab,aK⟩:=h;obtain⟨gc,jw,rfl,wz,arW,pN⟩:=H.Ho ok.c1;have back:∀(c:Nat) (e:Ending) (w':World),BK c w e w'->e=.returned (.tuple #[q 0,q (c:Int)])/\iW (db F w) w' b t/\da F w w':=fun c e w' h=>⟨h.1,⟨_,b0,rs,h1.move (dj.mP h.2),H.move (dj.mP h.2),ab.move (dj.mP h.2),aK.move (dj.mP h.2)⟩,da.of h.2⟩;have wx:t.last<=1000000000:=by have:=ok.last;omega
 have yY:=ok.Ea;have sw:=ok.gp;unfold od;by_cases b7:ba.length=t.bl.length
 ·rw[if_pos b7];cases hm:iq bS.valOf ba with
  | none=>exact(S2 b g af gc jw t.name b0 t.last t.bl ba w h1.2 r hv R X hs (by rw[if_pos b7,hm])).mono (fun e w' h=>back 1 e w' h)
  | some l=>
   have eW:=aeK 0 b g af gc jw t.name b0 t.last t.ad.length _ t.bl ba w h1.2 H.1 ab.1 bu r wx r hv R X hs l (by rw[if_pos b7,hm]) _ rfl _ rfl;simp only;cases D8:q7 l t.bl with
   | false=>rw[D8] at eW;rw[if_neg K];exact eW.mono (fun e w' h=>back 5 e w' h)
   | true=>
    rw[D8] at eW;rw[if_pos rfl];by_cases av:20<=t.ad.length
    ·rw[ax3 av] at eW;rw[if_pos av];exact eW.mono (fun e w' h=>back 7 e w' h)
    ·rw[ax2 av] at eW;rw[if_neg av];refine eW.mono ?_;rintro e w' ⟨rfl,k,C0,hk,Hq,lX,an,fs,X6⟩;have hF:∀U,U<w.heap.size->(U=b\/b0.ownBlock=some U)->F U:=fun U _ ae=>by
      rcases ae with rfl | ae
      ·exact h1.1
      ·exact ab.2 U ae
     have aeR:=H.past X6 h1.2 K ab K;have aeS:∀{x:Value} {n:Nat} {xs:List Value},eg F w 112 3 x n xs->eg (db F w) w' 112 3 x n xs:=fun {_ _ _} aa=>aa.past X6 h1.2 K ab K;have LL:∀{rs:List (Nat×Value)} {l:je},dk F w rs l->dk (db F w) w' rs l:=fun {rs l}=>by
      induction rs generalizing l with
      | nil=>
       cases l with
       | nil=>exact fun _=>trivial
       | cons=>exact fun h=>h.elim
      | cons a C aH=>
       cases l with
       | nil=>exact fun h=>h.elim
       | cons b s=>exact fun h=>⟨⟨h.1.1,aeS h.1.2⟩,aH h.2⟩
     refine⟨rfl,⟨_,C0,rs++[(t.last+1,.slice (some ⟨k,0,none⟩) l.length l.length)],⟨db.any h1.1,lX⟩,aeR,⟨?_,?_⟩,dk.snoc rfl (eg.new Hq (fun k hk=>db.new hk)) (LL aK)⟩,X6.mono hF⟩
     ·rw[LF];show w'.ownsRow 0 _ 2 C0 (t.ad++[_]).length _;rw[cu];exact an
     ·intro U ae;rcases fs U ae with h | h
      ·exact db.any (ab.2 U h)
      ·exact db.new h
 ·rw[if_neg b7];exact(S2 b g af gc jw t.name b0 t.last t.bl ba w h1.2 r hv R X hs (by rw[if_neg b7])).mono (fun e w' h=>back 1 e w' h)
def S9{α:Type}{l:List α}{p:α->Bool}(h:l.findIdx? p=some i):i<l.length:=by obtain⟨h,_⟩:=List.findIdx?_eq_some_iff_getElem.1 h;exact h
section
variable (F:Nat->Prop) (w:World) (b:Nat) (bk c1 dZ:Value) (b0:Value) (rs:List (Nat×Value)) (m:Int) (h1:jn F w b #[bk,c1,b0,dZ] 137) (ab:eg F w 115 2 b0 rs.length (cQ rs)) (ar:rs.length<=1000)
include h1 ab ar
def aeT(av:rs.findIdx? (fun C=>(C.1:Int)==m)=none):ey 35 #[M b,q m] w (gU w (q 8)):=by have c2:dp w b 2=some b0:=h1.cell (i:=2) rfl;have cY:=h1.lt;have hK:eB w (w.alloc (.cells #[q m] 3)):=cT;have fq:=bH w (.cells #[q m] 3);obtain⟨eL,fm,rfl⟩:=ab.shape;have kj:=u (SY rs m w.heap.size eL fm 0 (w.alloc (.cells #[q m] 3)) (jn.cell (F:=fun _=>True) ⟨trivial,fq⟩ (i:=0) rfl) (by simp) (ab.1.alloc _) ar);rw[av,show nV none = -1 from rfl] at kj;have cy:¬b=w.heap.size:=r;clear fq av;go_enter func35,ntmps35;go_wp2_with (go_at_call 60;refine kj.d.mono ?_;rintro e S ⟨rfl,ah⟩);go_ret;exact⟨rfl,hK.trans (ah.mono (by simp))⟩
def aeU(D3:∀bp∈cQ rs,bp.oneCell'=true)(i:Nat)(av:rs.findIdx? (fun C=>(C.1:Int)==m)=some i):ey 35 #[M b,q m] w fun e w'=>e=.returned (q 0)/\∃C0,jn (db F w) w' b #[bk,c1,C0,dZ] 137/\eg (db F w) w' 115 2 C0 (rs.eraseIdx i).length (cQ (rs.eraseIdx i))/\da (fun U=>U=b\/b0.ownBlock=some U) w w':=by
 have hi:=S9 av;have c2:dp w b 2=some b0:=h1.cell (i:=2) rfl;have cY:=h1.lt;have hK:eB w (w.alloc (.cells #[q m] 3)):=cT;have fq:=bH w (.cells #[q m] 3);obtain⟨g,fm,rfl,om,aeV,ef⟩:=ab.Ho r;have kj:=u (SY rs m w.heap.size (some ⟨g,0,none⟩) fm 0 (w.alloc (.cells #[q m] 3)) (jn.cell (F:=fun _=>True) ⟨trivial,fq⟩ (i:=0) rfl) (by simp) (ab.1.alloc _) ar);rw[av,show nV (some i)=(i:Int) from rfl] at kj;have cy:¬b=w.heap.size:=r;have fr:IntKind.i64.wrap ((i:Int)+1)=(i:Int)+1:=mC;have ed:g≠b:=fun e=>ab.apart h1.2 K (by rw[e];rfl);clear fq av;have dT:Hid (∀S,Below (w.alloc (.cells #[q m] 3)).heap.size (w.alloc (.cells #[q m] 3)) S->eB w S):=u (fun S ah=>hK.trans (ah.mono (by simp)));have nM:(0:Int)<=(i:Int):=r;clear hK
 go_enter func35,ntmps35;go_upto_region 2 with(go_at_call 60;refine kj.d.mono ?_;rintro e S ⟨rfl,ah⟩);have A:=dT.d S ah;have lW:=h1.move (dj.mP A);have dW:=ab.move (dj.mP A);have d2:dp S b 2=some (.slice (some ⟨g,0,none⟩) rs.length fm):=lW.cell (i:=2) rfl;have gy:=u (aey 0 g fm rs.length i (cQ rs) S dW.1 D3 hi ar);have arX:=A.size;have b4:Hid (∀aA,S.grownBy aA (some g)->aA.heap[b]?=some (.cells #[bk,c1,.slice (some ⟨g,0,none⟩) rs.length fm,dZ] 137 (0,0))):=u (fun aA eC=>(eC.block b r (fun e=>ed (bx e).symm)).trans lW.2);clear ah kj dT c2 om;go_wp2_with (go_at_call 62;refine gy.d.mono ?_;rintro e aA ⟨rfl,ie,Ta⟩;have cg:=b4.d aA Ta;have d3:=jn.cell (F:=fun _=>True) ⟨trivial,cg⟩ (i:=2) rfl;have f3:=jn.free (F:=fun _=>True) ⟨trivial,cg⟩ (i:=2))
 go_ret;have b7:(rs.eraseIdx i).length=rs.length-1:=by rw[List.length_eraseIdx,if_pos hi]
 have qC:jn F aA b #[bk,c1,.slice (some ⟨g,0,none⟩) rs.length fm,dZ] 137:=⟨h1.1,cg⟩;refine⟨rfl,_,⟨db.any h1.1,(qC.set 2 _).2⟩,⟨?_,fun k hk=>?_⟩,?_⟩
 ·rw[b7,<-aeC];exact(eg.set (F:=fun _=>True) ⟨ie,fun _ _=>trivial⟩ (by simp[Value.ownBlock,ed]) 2 _).1
 ·obtain rfl:g=k:=by simpa [Value.ownBlock] using hk
  exact db.any aeV
 ·exact(((da.of A).andThen (da.grown Ta (fun k e=>.inr e)))).andThen (da.set b 2 _ (.inl rfl))
end
def iW.delete(h:iW F w b t)(ok:sE N t)(m:Int):ey 35 #[M b,q m] w fun e w'=>e=.returned (q ((ad1 t m).1:Int))/\iW (db F w) w' b (ad1 t m).2/\da F w w':=by
 obtain⟨fl,b0,rs,h1,H,ab,aK⟩:=h;have b7:=aK.len;have yY:=ok.Ea;have BM:=aK.find m;rw[<-b7] at ab;unfold ad1;cases av:t.ad.findIdx? (fun C=>(C.1:Int)==m) with
 | none=>refine(aeT F w b _ _ _ b0 rs m h1 ab r (BM.trans av)).mono ?_;rintro e w' ⟨rfl,A⟩;exact⟨rfl,⟨fl,b0,rs,h1.move (dj.mP A),H.move (dj.mP A),b7▸ab.move (dj.mP A),aK.move (dj.mP A)⟩,da.of A⟩
 | some i=>
  refine(aeU F w b _ _ _ b0 rs m h1 ab r aK.one i (BM.trans av)).mono ?_;rintro e w' ⟨rfl,C0,bw,b1,X6⟩;have hF:∀U,U<w.heap.size->(U=b\/b0.ownBlock=some U)->F U:=fun U _ ae=>by
   rcases ae with rfl | ae
   ·exact h1.1
   ·exact ab.2 U ae
  have LL:∀{rs:List (Nat×Value)} {l:je},dk F w rs l->dk (db F w) w' rs l:=fun {rs l}=>by
   induction rs generalizing l with
   | nil=>
    cases l with
    | nil=>exact fun _=>trivial
    | cons=>exact fun h=>h.elim
   | cons a C aH=>
    cases l with
    | nil=>exact fun h=>h.elim
    | cons b s=>exact fun h=>⟨⟨h.1.1,h.1.2.past X6 h1.2 K ab K⟩,aH h.2⟩
  have nu:=(aK.erase i).len;exact⟨rfl,⟨fl,C0,rs.eraseIdx i,bw,H.past X6 h1.2 K ab K,nu▸b1,LL (aK.erase i)⟩,X6.mono hF⟩
def eT(F:Nat->Prop)(c:Nat->Nat)(i:Nat)(k:Nat):Prop:=F k/\c k=i
def va(c:Nat->Nat)(w:World)(i:Nat)(k:Nat):Nat:=if k<w.heap.size then c k else i
def BN{j:Nat}(hs:da (eT F c i) w w')(aS:j≠i):dj (eT F c j) (eT (db F w) (va c w i) j) w w':=fun k hk hF=>⟨⟨db.fH hk hF.1,by unfold va;rw[if_pos hk];exact hF.2⟩,hs.block k hk (fun h=>aS (hF.2.symm.trans h.2))⟩
def zL(h:db (eT F c i) w k):eT (db F w) (va c w i) i k:=by
 rcases h with⟨h1,H⟩ | h
 ·exact⟨db.fH h1 H.1,by unfold va;rw[if_pos h1];exact H.2⟩
 ·exact⟨db.new h,by unfold va;rw[if_neg r]⟩
def zM{F':Nat->Prop}(m:dj F F' w w')(c:Nat->Nat)(i:Nat):dj (eT F c i) (eT F' c i) w w':=fun k hk hF=>⟨⟨(m k hk hF.1).1,hF.2⟩,(m k hk hF.1).2⟩
structure tT where
 a:Value
 b:Value
 c:Value
 aq:Value
 e:Value
variable{ex:tT}
def h2(F:Nat->Prop)(w:World)(b:Nat)(ex:tT)(g:hG):Prop:=∃(c:Nat->Nat) (aE:Value) (bs:List Nat),bs.length=g.bY.length/\jn (eT F c 0) w b #[aE,ex.a,ex.b,ex.c,ex.aq,ex.e,q g.dS] 67/\eg (eT F c 0) w 83 1 aE bs.length (rz bs)/\∀i (h:i<bs.length) (H:i<g.bY.length),iW (eT F c (i+1)) w bs[i] g.bY[i]
def h2.move{F F':Nat->Prop}{w w':World}{b:Nat}{ex:tT}{g:hG}(h:h2 F w b ex g)(m:dj F F' w w'):h2 F' w' b ex g:=by obtain⟨c,aE,bs,aw,h1,H,ab⟩:=h;exact⟨c,aE,bs,aw,h1.move (zM m c 0),H.move (zM m c 0),fun i h cC=>(ab i h cC).move (zM m c (i+1))⟩
structure hA (N:Nat) (g:hG):Prop where
 wA:g.bY.length<=6
 B:∀t∈g.bY,sE N t
 zN:0<=g.dS
 ya:g.dS<=1000000000000
def LM(l:List bG)(name:e6):nK (l.map (·.name)) name=fD l name:=by unfold nK fD;rw[List.findIdx?_map];rfl
def iW.name{F:Nat->Prop}{w:World}{b:Nat}{t:bG}(h:iW F w b t):dp w b 0=some (.string t.name):=by obtain⟨fl,b0,rs,h1,_⟩:=h;exact h1.cell (i:=0) rfl
def h2.find(aw:bs.length=g.bY.length)(H:eg (eT F c 0) w 83 1 aE bs.length (rz bs))(ab:∀i (h:i<bs.length) (H:i<g.bY.length),iW (eT F c (i+1)) w bs[i] g.bY[i])(cE:g.bY.length<=6)(name:e6):ey 30 #[aE,.string name] w (ov w (rA bs (fD g.bY name))):=by
 rw[<-LM];exact Lw aE bs (g.bY.map (·.name)) name 0 w H.1 (by rw[cZ,aw]) r (fun i h cC=>by
  rw[cZ] at cC;rw[(ab i h cC).name];simp)
def yb{l:List bG}{name:e6}(h:fD l name=some i):i<l.length:=S9 h
def h2.turn(aw:bs.length=g.bY.length)(h1:jn (eT F c 0) w b #[aE,ex.a,ex.b,ex.c,ex.aq,ex.e,q g.dS] 67)(H:eg (eT F c 0) w 83 1 aE bs.length (rz bs))(ab:∀i (h:i<bs.length) (H:i<g.bY.length),iW (eT F c (i+1)) w bs[i] g.bY[i])(i:Nat)(hi:i<bs.length)(ne:bG)(au:iW (db (eT F c (i+1)) w) w' bs[i] ne)(hs:da (eT F c (i+1)) w w'):h2 (db F w) w' b ex {g with bY:=g.bY.set i ne}/\da F w w':=by
 refine⟨⟨va c w (i+1),aE,bs,by rw[List.length_set];exact aw,h1.move (BN hs r),H.move (BN hs r),fun j h cC=>?_⟩,hs.mono (fun k _ h=>h.1)⟩;have sr:j<g.bY.length:=by simpa using cC
 by_cases e:j=i
 ·subst e;have:(g.bY.set j ne)[j]'(by rw[List.length_set];exact sr)=ne:=List.getElem_set_self _;show iW _ _ _ ((g.bY.set j ne)[j]'(by rw[List.length_set];exact sr));rw[this];refine au.move (dj.to (fun k _ hk=>zL hk))
 ·have:(g.bY.set i ne)[j]'(by rw[List.length_set];exact sr)=g.bY[j]:=List.getElem_set_ne r _;show iW _ _ _ ((g.bY.set i ne)[j]'(by rw[List.length_set];exact sr));rw[this];exact(ab j h sr).move (BN hs r)
def LN(h:i<bs.length):rA bs (some i)=.pointer (some ⟨bs[i],0,none⟩):=by unfold rA;simp[List.getD,h]
def LO{name:e6}(av:fD g.bY name=none):mF g name ba=(0,8,g):=by unfold mF;rw[av]
def Ht{name:e6}(av:fD g.bY name=some i)(hi:i<g.bY.length):mF g name ba=((od g.bY[i] ba).1,(od g.bY[i] ba).2.1,{g with bY:=g.bY.set i (od g.bY[i] ba).2.2}):=by unfold mF;rw[av];simp only[fC hi]
def LP{name:e6}(av:fD g.bY name=none):pz g name m=(8,g):=by unfold pz;rw[av]
def LQ{name:e6}(av:fD g.bY name=some i)(hi:i<g.bY.length):pz g name m=((ad1 g.bY[i] m).1,{g with bY:=g.bY.set i (ad1 g.bY[i] m).2}):=by unfold pz;rw[av];simp only[fC hi]
def aeW(h:h2 F w b ex g)(ok:hA N g)(cS:N<=1000000000)(name:e6)(U af:Nat)(ba:e4)(hv:zG w U ba)(ae:U<w.heap.size)(X:ba.length<=2000000)(hs:∀t∈ba,t.size<=2000000):ey 14 #[M b,.string name,.slice (some ⟨U,0,none⟩) ba.length af] w fun e w'=>e=.returned (.tuple #[q ((mF g name ba).1:Int),q ((mF g name ba).2.1:Int)])/\h2 (db F w) w' b ex (mF g name ba).2.2/\da F w w':=by
 have eU:=h;obtain⟨c,aE,bs,aw,h1,H,ab⟩:=h;have bj:=u (h2.find aw H ab ok.wA name);have bk:dp w b 0=some aE:=h1.cell (i:=0) rfl;cases av:fD g.bY name with
 | none=>rw[LO av];rw[av,show rA bs none=.pointer none from rfl] at bj;have bK:=u (eU.move (dj.mP (Below.refl w.heap.size w)));clear eU h1 H ab av;go_enter func14,ntmps14;go_wp2_with (go_at_call 30;refine bj.d.mono ?_;rintro e S ⟨rfl,rfl⟩);go_ret2;exact⟨rfl,bK.d,da.refl _ _⟩
 | some i=>have hi:=yb av;have wB:i<bs.length:=r;have au:=ab i wB hi;rw[av,LN wB] at bj;rw[Ht av hi];have kj:=u (au.insert (ok.B _ (ec hi)) cS U af ba hv ae X hs);have dy:Hid (∀w' ne,iW (db (eT F c (i+1)) w) w' bs[i] ne->da (eT F c (i+1)) w w'->h2 (db F w) w' b ex {g with bY:=g.bY.set i ne}/\da F w w'):=u (fun w' ne a kH=>h2.turn aw h1 H ab i wB ne a kH);generalize od g.bY[i] ba=cm at *;clear eU h1 H ab av au hs hv;go_enter func14,ntmps14;go_wp2_with (first | (go_at_call 30;refine bj.d.mono ?_;rintro e S ⟨rfl,rfl⟩) | (go_at_call 34;refine kj.d.mono ?_;rintro e S ⟨rfl,nN,ep⟩));go_ret2;exact⟨rfl,dy.d S _ nN ep⟩
def aeX(h:h2 F w b ex g)(ok:hA N g)(name:e6)(m:Int):ey 15 #[M b,.string name,q m] w fun e w'=>e=.returned (q ((pz g name m).1:Int))/\h2 (db F w) w' b ex (pz g name m).2/\da F w w':=by
 have eU:=h;obtain⟨c,aE,bs,aw,h1,H,ab⟩:=h;have bj:=u (h2.find aw H ab ok.wA name);have bk:dp w b 0=some aE:=h1.cell (i:=0) rfl;cases av:fD g.bY name with
 | none=>rw[LP av];rw[av,show rA bs none=.pointer none from rfl] at bj;have bK:=u (eU.move (dj.mP (Below.refl w.heap.size w)));clear eU h1 H ab av;go_enter func15,ntmps15;go_wp2_with (go_at_call 30;refine bj.d.mono ?_;rintro e S ⟨rfl,rfl⟩);go_ret;exact⟨rfl,bK.d,da.refl _ _⟩
 | some i=>have hi:=yb av;have wB:i<bs.length:=r;have au:=ab i wB hi;rw[av,LN wB] at bj;rw[LQ av hi];have kj:=u (au.delete (ok.B _ (ec hi)) m);have dy:Hid (∀w' ne,iW (db (eT F c (i+1)) w) w' bs[i] ne->da (eT F c (i+1)) w w'->h2 (db F w) w' b ex {g with bY:=g.bY.set i ne}/\da F w w'):=u (fun w' ne a kH=>h2.turn aw h1 H ab i wB ne a kH);generalize ad1 g.bY[i] m=cm at *;clear eU h1 H ab av au;go_enter func15,ntmps15;go_wp2_with (first | (go_at_call 30;refine bj.d.mono ?_;rintro e S ⟨rfl,rfl⟩) | (go_at_call 35;refine kj.d.mono ?_;rintro e S ⟨rfl,nN,ep⟩));go_ret;exact⟨rfl,dy.d S _ nN ep⟩
def aeY:tT:=⟨.slice none 0 0,.slice none 0 0,q 0,.slice none 0 0,q 0⟩
def Eb:hG:=⟨[],0⟩
def aeZ(w:World):ey 12 #[] w fun e w'=>∃k,w.heap.size<=k/\e=.returned (M k)/\h2 (fun U=>w.heap.size<=U) w' k aeY Eb/\eB w w':=by go_enter func12,ntmps12;go_wp2_with fail;go_ret;refine⟨w.heap.size,ap,rfl,⟨fun _=>0,.slice none 0 0,[],rfl,⟨⟨ap,rfl⟩,bH w _⟩,eg.nil _ _ _ _,fun i h=>absurd h (fp _)⟩,cT⟩
def Tb(s:e6)(l:List UInt8):(s.toList==l)=(s==a7 l):=by
 cases h:s==a7 l with
 | true=>rw[(xz _ _).1 h,ByteArray.toList_eq,Dc];exact beq_self_eq_true l
 | false=>rw[cV];intro e;have:s=a7 l:=toList_inj (by rw[e,ByteArray.toList_eq,Dc]);rw[(xz _ _).2 this] at h;cases h
def Tc(s:e6)(w:World):ey 31 #[.string s] w (ov w (.bool (s==qo||s==qp))):=by
 have g1:(s.toList==[108,111,103])=(s==qo):=Tb _ _;have g2:(s.toList==[116,111,117,99,104])=(s==qp):=Tb _ _;generalize (s==qo)=x at *;generalize (s==qp)=y at *;cases x
 ·cases y
  ·go_enter func31,ntmps31;go_wp2_with fail;go_ret;exact⟨rfl,rfl⟩
  ·go_enter func31,ntmps31;go_wp2_with fail;go_ret;exact⟨rfl,rfl⟩
 ·go_enter func31,ntmps31;go_wp2_with fail;go_ret;exact⟨rfl,rfl⟩
def dj.stay(h:eB w w'):dj F F w w':=fun k hk hF=>⟨hF,h.block k hk⟩
def LR(l:List bG)(name:e6):l.any (fun t=>t.name==name)=(fD l name).isSome:=by unfold fD;rw[List.findIdx?_isSome]
def Hu{name:e6}(h:iP name.data.toList=false\/mE bl.data.toList=none):lL g name bl=(1,g):=by
 unfold lL;rcases h with h | h
 ·rw[h,if_neg K]
 ·rw[h];split<;>rfl
def Td{name:e6}(h:iP name.data.toList=true)(ai:mE bl.data.toList=some l)(ab:((fD g.bY name).isSome||name==qo||name==qp||twins l)=true):lL g name bl=(3,g):=by unfold lL;rw[h,if_pos rfl,ai];simp only;rw[LR,ab,if_pos rfl]
def Te{name:e6}(h:iP name.data.toList=true)(ai:mE bl.data.toList=some l)(ab:((fD g.bY name).isSome||name==qo||name==qp||twins l)=false)(cE:6<=g.bY.length):lL g name bl=(7,g):=by unfold lL;rw[h,if_pos rfl,ai];simp only;rw[LR,ab,if_neg K,if_pos cE]
def Tf{name:e6}(h:iP name.data.toList=true)(ai:mE bl.data.toList=some l)(ab:((fD g.bY name).isSome||name==qo||name==qp||twins l)=false)(cE:¬6<=g.bY.length):lL g name bl=(0,{g with bY:=g.bY++[⟨name,l,[],0⟩]}):=by unfold lL;rw[h,if_pos rfl,ai];simp only;rw[LR,ab,if_neg K,if_neg cE]
def LS(h:mE s=some l):1<=l.length/\l.length<=4:=by
 unfold mE at h;split at h
 ·cases h
 ·rename_i aK;rw[Be _ _ _ h];obtain⟨a,t,e⟩:=Gu 44 s;rw[e] at aK ⊢;simp at aK ⊢;omega
section
variable {F:Nat->Prop} {w:World} {b:Nat} {ex:tT} {g:hG} {N:Nat} (h:h2 F w b ex g) (ok:hA N g) (R:et w) (name bl:e6) (dV:name.size<=2000000) (ep:bl.size<=2000000)
include h ok R dV ep
def wC(F:Nat->Prop)(w:World)(b:Nat)(ex:tT)(C:Nat×hG)(e:Ending)(w':World):Prop:=e=.returned (q (C.1:Int))/\h2 (db F w) w' b ex C.2/\da F w w'
omit ok dV in
def ae0(ai:mE bl.data.toList=none):ey 13 #[M b,.string name,.string bl] w (wC F w b ex (lL g name bl)):=by rw[Hu (.inr ai)];have cK:=u (Hc bl w R ep);unfold DU at cK;rw[ai] at cK;have bK:Hid (∀w',eB w w'->wC F w b ex (1,g) (.returned (q 1)) w'):=u (fun w' A=>⟨rfl,h.move (dj.mP A),da.of A⟩);clear h R ai;go_enter func13,ntmps13;go_wp2_with (go_at_call 28;refine cK.d.mono ?_;rintro e S ⟨rfl,ah⟩);go_ret;exact bK.d S ah
omit ok in
def ae1(l:List (e6×Nat))(ai:mE bl.data.toList=some l)(ar:iP name.data.toList=false):ey 13 #[M b,.string name,.string bl] w (wC F w b ex (lL g name bl)):=by
 rw[Hu (.inl ar)];have cK:=u (Hc bl w R ep);unfold DU at cK;rw[ai] at cK;have bK:Hid (∀w',eB w w'->wC F w b ex (1,g) (.returned (q 1)) w'):=u (fun w' A=>⟨rfl,h.move (dj.mP A),da.of A⟩);have bn:Hid (∀w',eB w w'->ey 29 #[.string name] w' (ov w' (.bool false))):=u (fun w' A=>by
  have:=Gn name w' (R.below A R.js) dV;rw[ar] at this;exact this)
 clear h R ai ar;go_enter func13,ntmps13;go_wp2_with (first | (go_at_call 28;refine cK.d.mono ?_;rintro e S ⟨⟨v,rfl,ej⟩,ah⟩) | (go_at_call 29;refine(bn.d S ah).mono ?_;rintro e aA ⟨rfl,rfl⟩));go_ret;exact bK.d S ah
def ae2(l:List (e6×Nat))(ai:mE bl.data.toList=some l)(ar:iP name.data.toList=true)(ab:((fD g.bY name).isSome||name==qo||name==qp||twins l)=true):ey 13 #[M b,.string name,.string bl] w (wC F w b ex (lL g name bl)):=by
 rw[Td ar ai ab];have X:=LS ai;have cK:=u (Hc bl w R ep);unfold DU at cK;rw[ai] at cK;have bK:Hid (∀w',eB w w'->wC F w b ex (3,g) (.returned (q 3)) w'):=u (fun w' A=>⟨rfl,h.move (dj.mP A),da.of A⟩);have bn:Hid (∀w',eB w w'->ey 29 #[.string name] w' (ov w' (.bool true))):=u (fun w' A=>by
  have:=Gn name w' (R.below A R.js) dV;rw[ar] at this;exact this)
 obtain⟨c,aE,bs,c7,Y,am,bm⟩:=h;have bj:Hid (∀w',eB w w'->dp w' b 0=some aE/\ey 30 #[aE,.string name] w' (ov w' (rA bs (fD g.bY name)))):=u (fun w' A=>⟨(Y.move (dj.stay A)).cell (i:=0) rfl,h2.find c7 (am.move (dj.stay A)) (fun i h cC=>(bm i h cC).move (dj.stay A)) ok.wA name⟩);have cx:=u (Tc name);have hW:Hid (∀i,fD g.bY name=some i->i<g.bY.length):=u (fun i hi=>yb hi);clear R ai ar Y am bm;cases av:fD g.bY name with
 | some i=>
  have wB:i<bs.length:=by have:=hW.d i av;omega
  rw[av,LN wB] at bj;clear av ab cx hW;go_enter func13,ntmps13;go_wp2_with (first | (go_at_call 28;refine cK.d.mono ?_;rintro e S ⟨⟨v,rfl,ej⟩,ah⟩;have bk:=(bj.d S ah).1) | (go_at_call 29;refine(bn.d S ah).mono ?_;rintro e aA ⟨rfl,rfl⟩) | (go_at_call 30;refine(bj.d S ah).2.mono ?_;rintro e aA ⟨rfl,rfl⟩));go_ret;exact bK.d S ah
 | none=>
  rw[av] at bj ab;rw[show rA bs none=.pointer none from rfl] at bj;simp only[Option.isSome_none,Bool.false_or] at ab;generalize (name==qo||name==qp)=x at *;clear av hW;cases x
  ·have au:twins l=true:=by simpa using ab
   clear ab;have dy:Hid (∀(w':World) (v:Value),w'.ownsRow w.heap.size 130 2 v l.length (mO l)->ey 32 #[v] w' (gU w' (.bool true))):=u (fun w' v ag=>by
    have:=SO v l _ w' ag r;rw[au] at this;exact this)
   clear au;go_enter func13,ntmps13;go_wp2_with (first | (go_at_call 28;refine cK.d.mono ?_;rintro e S ⟨⟨v,rfl,ej⟩,ah⟩;have bk:=(bj.d S ah).1) | (go_at_call 29;refine(bn.d S ah).mono ?_;rintro e aA ⟨rfl,rfl⟩) | (go_at_call 30;refine(bj.d S ah).2.mono ?_;rintro e aA ⟨rfl,rfl⟩) | (go_at_call 31;refine(cx.d S).mono ?_;rintro e aA ⟨rfl,rfl⟩) | (go_at_call 32;refine(dy.d S v ej).mono ?_;rintro e aA ⟨rfl,cg⟩));go_ret;exact bK.d aA (ah.trans (cg.mono ah.size))
  ·clear ab;go_enter func13,ntmps13;go_wp2_with (first | (go_at_call 28;refine cK.d.mono ?_;rintro e S ⟨⟨v,rfl,ej⟩,ah⟩;have bk:=(bj.d S ah).1) | (go_at_call 29;refine(bn.d S ah).mono ?_;rintro e aA ⟨rfl,rfl⟩) | (go_at_call 30;refine(bj.d S ah).2.mono ?_;rintro e aA ⟨rfl,rfl⟩) | (go_at_call 31;refine(cx.d S).mono ?_;rintro e aA ⟨rfl,rfl⟩));go_ret;exact bK.d S ah
end
def ae3:(prog.info? 83).map (fun i=>(i.zero,i.size,i.bytes))=some (some (.pointer none),1,8):=ax
def ae4(w:World)(a:Value)(t:TypeId):∀j bp,([a]:List Value)[j]?=some bp->(w.alloc (.cells #[a] t)).cell? ((⟨w.heap.size,0,none⟩:Addr).add j)=some bp:=World.news_of_block (cs:=#[a]) (bH w _)
def BO(c:Nat->Nat)(w:World)(g n U:Nat):Nat:=if U<w.heap.size then c U else if U=g then 0 else n
def LU{g:Nat}(h:U<w.heap.size):BO c w g n U=c U:=if_pos h
def ae5{g:Nat}(h:w.heap.size<=g):BO c w g n g=0:=by unfold BO;rw[if_neg r,if_pos rfl]
def ae6{g:Nat}(h:w.heap.size<=U)(ae:U≠g):BO c w g n U=n:=by unfold BO;rw[if_neg r,if_neg ae]
def ae7(c7:bs.length=g.bY.length)(Y:jn (eT F c 0) w b #[aE,ex.a,ex.b,ex.c,ex.aq,ex.e,q g.dS] 67)(am:eg (eT F c 0) w 83 1 aE bs.length (rz bs))(bm:∀i (h:i<bs.length) (H:i<g.bY.length),iW (eT F c (i+1)) w bs[i] g.bY[i])(name:e6)(l:List (e6×Nat)){bh cw:World}(cO:eB w bh)(hk:w.heap.size<=k)(Ec:bh.heap[k]?=some (.cells #[.string name,fl,.slice none 0 0,q 0] 137 (0,0)))(ae8:bh.ownsRow w.heap.size 130 2 fl l.length (mO l))(vb:da (fun U=>aE.ownBlock=some U) bh cw){g6 zO:Nat}(Ed:cw.ownsRow 0 83 1 (.slice (some ⟨g6,0,none⟩) (bs.length+1) zO) (bs.length+1) (rz bs++[M k]))(Ee:aE.ownBlock=some g6\/bh.heap.size<=g6):h2 (db F w) (cw.setCell ⟨b,0,none⟩ (.slice (some ⟨g6,0,none⟩) (bs.length+1) zO)) b ex {g with bY:=g.bY++[⟨name,l,[],0⟩]}/\da F w (cw.setCell ⟨b,0,none⟩ (.slice (some ⟨g6,0,none⟩) (bs.length+1) zO)):=by
 have z5:=cO.size;have bc:=Y.lt;have Tg:k<bh.heap.size:=(br Ec).1;have tU:∀U,aE.ownBlock=some U->U<w.heap.size:=fun U ae=>(am.1.lt U ae).2;have sF:da (eT F c 0) w (cw.setCell ⟨b,0,none⟩ (.slice (some ⟨g6,0,none⟩) (bs.length+1) zO)):=((da.of cO).andThen (vb.mono (fun U _ ae=>am.2 U ae))).andThen (da.set b 0 _ Y.1);have pb:cw.heap[b]?=some (.cells #[aE,ex.a,ex.b,ex.c,ex.aq,ex.e,q g.dS] 67 (0,0)):=(vb.block b r (am.apart Y.2 K)).trans ((cO.block b bc).trans Y.2);have ed:g6≠b:=fun e=>by have:=eg.apart (F:=fun _=>True) ⟨Ed,fun _ _=>trivial⟩ pb K;exact this (by rw[e];rfl)
 refine⟨⟨BO c w g6 (bs.length+1),.slice (some ⟨g6,0,none⟩) (bs.length+1) zO,bs++[k],by simp[c7],?_,?_,?_⟩,sF.mono (fun _ _ h=>h.1)⟩
 ·refine⟨⟨db.any Y.1.1,(LU bc).trans Y.1.2⟩,?_⟩;exact(jn.set (F:=fun _=>True) ⟨trivial,pb⟩ 0 _).2
 ·have ag:=eg.set (F:=fun _=>True) ⟨Ed,fun _ _=>trivial⟩ (b:=b) (by simp[Value.ownBlock,ed]) 0 (.slice (some ⟨g6,0,none⟩) (bs.length+1) zO);refine⟨by rw[cu];simpa [rz] using ag.1,fun U ae=>?_⟩;obtain rfl:g6=U:=by simpa [Value.ownBlock] using ae
  rcases Ee with h | h
  ·have ae:=am.2 _ h;exact⟨db.any ae.1,(LU (tU _ h)).trans ae.2⟩
  ·exact⟨db.new r,ae5 r⟩
 ·intro i h1 H;have pI:i<g.bY.length+1:=by simpa using H
  by_cases hi:i<bs.length
  ·have kA:i<g.bY.length:=r;have o3:(bs++[k])[i]=bs[i]:=List.getElem_append_left hi;have bQ:(g.bY++[(⟨name,l,[],0⟩:bG)])[i]'(by simpa using pI)=g.bY[i]:=List.getElem_append_left kA;show iW _ _ ((bs++[k])[i]) ((g.bY++[(⟨name,l,[],0⟩:bG)])[i]'(by simpa using pI));rw[o3,bQ];exact(bm i hi kA).move (fun U ae hF=>⟨⟨db.fH ae hF.1,(LU ae).trans hF.2⟩,sF.block U ae (fun h=>by have a:=hF.2;have b:=h.2;omega)⟩)
  ·have LV:i=bs.length:=r;subst LV;have o3:(bs++[k])[bs.length]'(by simp)=k:=by simp
   have bQ:(g.bY++[(⟨name,l,[],0⟩:bG)])[bs.length]'(by simp[c7])=⟨name,l,[],0⟩:=by simp[c7]
   show iW _ _ ((bs++[k])[bs.length]'(by simp)) ((g.bY++[(⟨name,l,[],0⟩:bG)])[bs.length]'(by simp[c7]));rw[o3,bQ];have qy:iW (fun U=>w.heap.size<=U) bh k ⟨name,l,[],0⟩:=⟨fl,.slice none 0 0,[],⟨hk,Ec⟩,eg.new ae8 (fun _ h=>h),eg.nil _ _ _ _,trivial⟩;refine qy.move (fun U ae hF=>⟨⟨db.new hF,?_⟩,?_⟩)
   ·refine ae6 hF ?_;rintro rfl;rcases Ee with h | h
    ·have:=tU _ h;omega
    ·omega
   ·refine(Below.heap_setCell _ _ _ U (by show U≠b;omega)).trans (vb.block U ae (fun h=>?_));have:=tU _ h;omega
section
variable {F:Nat->Prop} {w:World} {b:Nat} {ex:tT} {g:hG} {N:Nat} (h:h2 F w b ex g) (ok:hA N g) (R:et w) (name bl:e6) (dV:name.size<=2000000) (ep:bl.size<=2000000)
include h ok R dV ep
def ae9(l:List (e6×Nat))(ai:mE bl.data.toList=some l)(ar:iP name.data.toList=true)(ab:((fD g.bY name).isSome||name==qo||name==qp||twins l)=false):ey 13 #[M b,.string name,.string bl] w (wC F w b ex (lL g name bl)):=by
 have X:=LS ai;have cK:=u (Hc bl w R ep);unfold DU at cK;rw[ai] at cK;have cE:=ok.wA;have bn:Hid (∀w',eB w w'->ey 29 #[.string name] w' (ov w' (.bool true))):=u (fun w' A=>by
  have:=Gn name w' (R.below A R.js) dV;rw[ar] at this;exact this)
 have eU:=h;obtain⟨c,aE,bs,c7,Y,am,bm⟩:=h;have bj:Hid (∀w',eB w w'->dp w' b 0=some aE/\ey 30 #[aE,.string name] w' (ov w' (rA bs (fD g.bY name)))):=u (fun w' A=>⟨(Y.move (dj.stay A)).cell (i:=0) rfl,h2.find c7 (am.move (dj.stay A)) (fun i h cC=>(bm i h cC).move (dj.stay A)) ok.wA name⟩);have cx:=u (Tc name);have av:fD g.bY name=none:=by
  cases av:fD g.bY name with
  | none=>rfl
  | some i=>rw[av] at ab;simp at ab
 have au:twins l=false:=by
  cases au:twins l with
  | false=>rfl
  | true=>rw[au] at ab;simp at ab
 have aa:(name==qo||name==qp)=false:=by
  cases aa:(name==qo||name==qp) with
  | false=>rfl
  | true=>rw[av] at ab;simp only[Option.isSome_none,Bool.false_or] at ab;rw[aa] at ab;simp at ab
 rw[av,show rA bs none=.pointer none from rfl] at bj;rw[aa] at cx;have dy:Hid (∀(w':World) (v:Value),w'.ownsRow w.heap.size 130 2 v l.length (mO l)->ey 32 #[v] w' (gU w' (.bool false))):=u (fun w' v ag=>by
  have:=SO v l _ w' ag r;rw[au] at this;exact this)
 obtain⟨bt,sG,rfl⟩:=am.shape;by_cases VB:6<=g.bY.length
 ·rw[Te ar ai ab VB];have bK:Hid (∀w',eB w w'->wC F w b ex (7,g) (.returned (q 7)) w'):=u (fun w' A=>⟨rfl,eU.move (dj.mP A),da.of A⟩);have rB:(6:Int)<=(bs.length:Int):=r;clear R ai ar c7 Y am bm ab av au aa eU;go_enter func13,ntmps13;go_wp2_with (first | (go_at_call 28;refine cK.d.mono ?_;rintro e S ⟨⟨v,rfl,ej⟩,ah⟩;have bk:=(bj.d S ah).1) | (go_at_call 29;refine(bn.d S ah).mono ?_;rintro e aA ⟨rfl,rfl⟩) | (go_at_call 30;refine(bj.d S ah).2.mono ?_;rintro e aA ⟨rfl,rfl⟩) | (go_at_call 31;refine(cx.d S).mono ?_;rintro e aA ⟨rfl,rfl⟩) | (go_at_call 32;refine(dy.d S v ej).mono ?_;rintro e aA ⟨rfl,cg⟩;have dZ:=(bj.d aA (ah.trans (cg.mono ah.size))).1));go_ret;exact bK.d aA (ah.trans (cg.mono ah.size))
 ·rw[Tf ar ai ab VB];have rB:(bs.length:Int)<6:=r;obtain⟨i0,hi,gj,gx,cd⟩:=info_parts ae3;have bJ:=Y.lt;have tV:=u Y;have JP:=u am;have Th:=u bm;have qt:=u c7;have bc:bs.length<=6:=r;clear R ai ar c7 Y am bm ab av au aa eU;go_enter func13,ntmps13;go_upto_region 8 with(first | (go_at_call 28;refine cK.d.mono ?_;rintro e S ⟨⟨v,rfl,ej⟩,ah⟩;have bk:=(bj.d S ah).1) | (go_at_call 29;refine(bn.d S ah).mono ?_;rintro e aA ⟨rfl,rfl⟩) | (go_at_call 30;refine(bj.d S ah).2.mono ?_;rintro e aA ⟨rfl,rfl⟩) | (go_at_call 31;refine(cx.d S).mono ?_;rintro e aA ⟨rfl,rfl⟩) | (go_at_call 32;refine(dy.d S v ej).mono ?_;rintro e aA ⟨rfl,cg⟩;have dZ:=(bj.d aA (ah.trans (cg.mono ah.size))).1));have A:=ah.trans (cg.mono ah.size);obtain⟨aC,fj,rfl⟩:=cG ej
  have qC:=tV.d.move (dj.stay A);have gY:=JP.d.move (dj.stay A);have Ti:=ee ej cg;have z3:=A.size;have LW:Hid (∀bh,eB aA bh->jn (eT F c 0) bh b #[.slice bt bs.length sG,ex.a,ex.b,ex.c,ex.aq,ex.e,q g.dS] 67/\eg (eT F c 0) bh 83 1 (.slice bt bs.length sG) bs.length (rz bs)):=u (fun bh cO=>⟨qC.move (dj.stay cO),gY.move (dj.stay cO)⟩);clear cK bn cx dy bj bk rB;go_region_law (first
   | (go_simp;go_at_call 33;refine(aet name aC l.length fj _ dV).mono ?_;rintro e bh ⟨k,hk,rfl,Ec,iR⟩;have fT:eB aA bh:=⟨iR.os,iR.tape,iR.output,iR.size,iR.block⟩;have nx:=(LW.d bh fT).1;have oY:=(LW.d bh fT).2;have fO:=nx.cell (i:=0) rfl;have xu:=nx.lt;have arY:¬b=bh.heap.size:=Nat.ne_of_lt xu)
   | (refine step_append_lies _ (by rfl) _ _ 59 (by rfl) 0 83 i0 (.pointer none) 1 8 underlying59 hi gj gx cd rfl K (.slice bt bs.length sG) bs.length (rz bs) (by rfl) (oY.1.alloc _) ⟨bh.heap.size,0,none⟩ 1 1 [.pointer (some ⟨k,0,none⟩)] (by rfl) (by rfl) (ae4 _ _ _) (by simp[Value.oneCell']) K (by unfold maxLen;omega) r bu (bh.heap.size+1) (by simp) ?_;intro g6 zO cw Ed LX Ee arZ;have pb:=(LX.block b (by have:=nx.lt;simp;omega) (fun e=>oY.apart nx.2 K e.symm)).trans ((Below.heap_alloc bh _ b nx.lt).trans nx.2);have d0:=jn.cell (F:=fun _=>True) ⟨trivial,pb⟩ (i:=0) rfl;have f0:=jn.free (F:=fun _=>True) ⟨trivial,pb⟩ (i:=0)))
  all_goals
   have cO:eB w bh:=A.trans (fT.mono z3);have gi:w.heap.size<=k:=bX z3 hk;have vb:da (fun U=>(Value.slice bt bs.length sG).ownBlock=some U) bh cw:=(da.of cT).andThen (da.grown LX (fun U e=>e));have zK:=u (ae7 qt.d tV.d JP.d Th.d name l cO gi Ec (ee Ti fT) vb Ed (Ee.imp id (fun e=>r)));clear cO gi vb qt tV JP Th qC gY Ti LW nx oY pb Ed LX Ee Ec iR fT;go_wp2_with fail;go_ret;exact⟨rfl,zK.d⟩
def afa:ey 13 #[M b,.string name,.string bl] w (wC F w b ex (lL g name bl)):=by
 cases ai:mE bl.data.toList with
 | none=>exact ae0 h R name bl ep ai
 | some l=>
  cases ar:iP name.data.toList with
  | false=>exact ae1 h R name bl dV ep l ai ar
  | true=>
   cases ab:((fD g.bY name).isSome||name==qo||name==qp||twins l) with
   | false=>exact ae9 h ok R name bl dV ep l ai ar ab
   | true=>exact ae2 h ok R name bl dV ep l ai ar ab
end
def sE.mono{ox:Nat}(h:N<=ox)(ok:sE N t):sE ox t:=⟨ok.c1,ok.gp,ok.Ea,bX ok.last h,ok.o8⟩
def hA.mono{N ox:Nat}(h:N<=ox){g:hG}(ok:hA N g):hA ox g:=⟨ok.wA,fun t au=>(ok.B t au).mono h,ok.zN,ok.ya⟩
def hA.zero(N:Nat):hA N Eb:=⟨bu,fun t au=>absurd au (ax4),Int.le_refl _,by show(0:Int)<=1000000000000;omega⟩
def afb{p:List UInt8}{c:e6×Nat}(h:A8 p=some c):c.2=1\/c.2=2:=by
 unfold A8 at h;split at h
 ·split at h
  ·obtain rfl:=bx h;exact .inl rfl
  ·split at h
   ·obtain rfl:=bx h;exact .inr rfl
   ·cases h
 ·cases h
def LY{α β:Type}(g:α->Option β):∀(a:List α) (l:List β),iq g a=some l->∀y∈l,∃x∈a,g x=some y
 | [],l,h,y,hy=>by obtain rfl:=bx h;cases hy
 | x::C,l,h,y,hy=>by
  rw[iq] at h;obtain⟨bp,hu,h⟩:=aV h;obtain⟨z,aY,h⟩:=aV h;obtain rfl:=bx h;rcases List.mem_cons.1 hy with rfl | hy
  ·exact⟨x,ax6,hu⟩
  ·obtain⟨j1,tC,e⟩:=LY g C z aY y hy;exact⟨j1,List.mem_cons_of_mem _ tC,e⟩
def afc(h:mE s=some l):∀c∈l,c.2=1\/c.2=2:=by
 unfold mE at h;split at h
 ·cases h
 ·intro c ai;obtain⟨x,_,e⟩:=LY _ _ _ h c ai;exact afb e
def hA.create(ok:hA N g)(name bl:e6):hA N (lL g name bl).2:=by
 cases ai:mE bl.data.toList with
 | none=>rw[Hu (.inr ai)];exact ok
 | some l=>
  cases ar:iP name.data.toList with
  | false=>rw[Hu (.inl ar)];exact ok
  | true=>
   cases ab:((fD g.bY name).isSome||name==qo||name==qp||twins l) with
   | true=>rw[Td ar ai ab];exact ok
   | false=>
    by_cases cE:6<=g.bY.length
    ·rw[Te ar ai ab cE];exact ok
    ·rw[Tf ar ai ab cE];have X:=LS ai;refine⟨?_,?_,ok.zN,ok.ya⟩
     ·show(g.bY++[_]).length<=6;rw[cu];simp;omega
     ·intro t au;rcases ax5 (show t∈g.bY++[_] from au) with au | au
      ·exact ok.B t au
      ·obtain rfl:=ic au;exact⟨X.1,X.2,bu,bu,afc ai⟩
def mem_set{α:Type}{l:List α}{a x:α}(h:x∈l.set i a):x∈l\/x=a:=(List.mem_or_eq_of_mem_set h)
def sE.insert(ok:sE N t)(ba:e4):sE (N+1) (od t ba).2.2:=by
 have zP:=ok.mono (Nat.le_succ N);unfold od;split
 ·split
  ·exact zP
  ·split
   ·split
    ·exact zP
    ·rename_i yY;refine⟨ok.c1,ok.gp,?_,Nat.succ_le_succ ok.last,ok.o8⟩;show(t.ad++[_]).length<=20;rw[cu];simp;omega
   ·exact zP
 ·exact zP
def hA.insert{N:Nat}{g:hG}(ok:hA N g)(name:e6)(ba:e4):hA (N+1) (mF g name ba).2.2:=by
 cases av:fD g.bY name with
 | none=>rw[LO av];exact ok.mono (Nat.le_succ N)
 | some i=>
  have hi:=yb av;rw[Ht av hi];refine⟨by show(g.bY.set i _).length<=6;rw[List.length_set];exact ok.wA,fun t au=>?_,ok.zN,ok.ya⟩;rcases mem_set (show t∈g.bY.set i _ from au) with au | rfl
  ·exact(ok.B t au).mono (Nat.le_succ N)
  ·exact(ok.B _ (ec hi)).insert ba
def sE.delete(ok:sE N t)(m:Int):sE N (ad1 t m).2:=by
 unfold ad1;split
 ·exact ok
 ·refine⟨ok.c1,ok.gp,?_,ok.last,ok.o8⟩;show(t.ad.eraseIdx _).length<=20;have:=ok.Ea;rw[List.length_eraseIdx];split<;>omega
def hA.delete{N:Nat}{g:hG}(ok:hA N g)(name:e6)(m:Int):hA N (pz g name m).2:=by
 cases av:fD g.bY name with
 | none=>rw[LP av];exact ok
 | some i=>
  have hi:=yb av;rw[LQ av hi];refine⟨by show(g.bY.set i _).length<=6;rw[List.length_set];exact ok.wA,fun t au=>?_,ok.zN,ok.ya⟩;rcases mem_set (show t∈g.bY.set i _ from au) with au | rfl
  ·exact ok.B t au
  ·exact(ok.B _ (ec hi)).delete m
structure zR (t:bG):Prop where
 fit:∀C∈t.ad,C.2.length=t.bl.length/\∀v∈C.2,fv v
 name:iP t.name.data.toList=true
 num:∀C∈t.ad,C.1<=t.last
def lw(g:hG):Prop:=∀t∈g.bY,zR t
def Be{α β:Type}(g:α->Option β):∀(a:List α) (l:List β),iq g a=some l->l.length=a.length
 | [],l,h=>by obtain rfl:=bx h;rfl
 | x::C,l,h=>by rw[iq] at h;obtain⟨bp,hu,h⟩:=aV h;obtain⟨z,aY,h⟩:=aV h;obtain rfl:=bx h;rw[di,di,Be g C z aY]
def afr{s:e6}{v:al}(h:bS.valOf s=some v):fv v:=by
 unfold bS.valOf at h;split at h
 ·obtain rfl:=bx h;exact Sr _
 ·cases h
def zR.insert(h:zR t)(ba:e4):zR (od t ba).2.2:=by
 unfold od;split
 ·rename_i X;split
  ·exact h
  ·rename_i l cr;split
   ·split
    ·exact h
    ·refine⟨fun C ag=>?_,h.name,fun C ag=>?_⟩
     ·rcases ax5 (show C∈t.ad++[_] from ag) with ag | ag
      ·exact h.fit C ag
      ·obtain rfl:=ic ag;refine⟨by show l.length=t.bl.length;rw[Be _ _ _ cr,X],fun v hv=>?_⟩;obtain⟨x,_,e⟩:=LY _ _ _ cr v hv;exact afr e
     ·rcases ax5 (show C∈t.ad++[_] from ag) with ag | ag
      ·exact Nat.le_succ_of_le (h.num C ag)
      ·obtain rfl:=ic ag;exact ap
   ·exact h
 ·exact h
def zR.delete(h:zR t)(m:Int):zR (ad1 t m).2:=by
 unfold ad1;split
 ·exact h
 ·exact⟨fun C ag=>h.fit C (List.mem_of_mem_eraseIdx ag),h.name,fun C ag=>h.num C (List.mem_of_mem_eraseIdx ag)⟩
def lw.zero:lw Eb:=fun t au=>absurd au (ax4)
def lw.create(h:lw g)(name bl:e6):lw (lL g name bl).2:=by
 unfold lL;split
 ·rename_i ar;split
  ·exact h
  ·split
   ·exact h
   ·split
    ·exact h
    ·intro t au;rcases ax5 (show t∈g.bY++[_] from au) with au | au
     ·exact h t au
     ·obtain rfl:=ic au;exact⟨fun C ag=>absurd ag (ax4),ar,fun C ag=>absurd ag (ax4)⟩
 ·exact h
def lw.insert{g:hG}(h:lw g)(name:e6)(ba:e4):lw (mF g name ba).2.2:=by
 cases av:fD g.bY name with
 | none=>rw[LO av];exact h
 | some i=>
  have hi:=yb av;rw[Ht av hi];intro t au;rcases mem_set (show t∈g.bY.set i _ from au) with au | rfl
  ·exact h t au
  ·exact(h _ (ec hi)).insert ba
def lw.delete{g:hG}(h:lw g)(name:e6)(m:Int):lw (pz g name m).2:=by
 cases av:fD g.bY name with
 | none=>rw[LP av];exact h
 | some i=>
  have hi:=yb av;rw[LQ av hi];intro t au;rcases mem_set (show t∈g.bY.set i _ from au) with au | rfl
  ·exact h t au
  ·exact(h _ (ec hi)).delete m
def lw.B{N:Nat}{g:hG}(h:lw g)(ok:hA N g):nW g.bY:=⟨fun t au=>bX (ok.B t au).Ea K,fun t au=>(h t au).fit⟩
