import Derived.Test.YtjebdgbpopolkaaGreatDoorM042
import Derived.Test.YtjebdgbpopolkaaGreatDoorM040
set_option maxHeartbeats 0
set_option maxRecDepth 100000
set_option linter.all false
namespace Go.Proofs.YtjebdgbpopolkaaGreatDoor
open Tryz
open bS
variable{F:Nat}{T:List (List UInt8)}{t:aL}
def adZ(c0 T:List (List UInt8))(j:List UInt8):List (List UInt8):=[40]::(c0++j::(T++[[41]]))
def sy:Nat->List Int->List (List UInt8)×List Int
 | _,[]=>(aw6,[])
 | 0,n::c=>(if qZ n 9<=4 then akc (qZ n 9) else if qZ n 9=5 then apt else if qZ n 9=6 then apJ else if qZ n 9=7 then apy else ajX (qZ n 5),c)
 | aq+1,n::c=>if qZ n 9=0 then (VL::(sy aq c).1,(sy aq c).2) else if qZ n 9<=2 then (adZ (sy aq c).1 (sy aq (sy aq c).2).1 (if qZ n 9=1 then aqb else VN),(sy aq (sy aq c).2).2) else (if qZ n 9<=4 then akc (qZ n 9) else if qZ n 9=5 then apt else if qZ n 9=6 then apJ else if qZ n 9=7 then apy else ajX (qZ n 5),c)
def apK{G:Nat}(h:AW F T t)(atQ:F<=G):AW G T t:=⟨h.head,h.last,h.chain,fun f C av=>h.parse f C r,h.awn⟩
def axQ(n:Int):∃t,AW 5 (if qZ n 9<=4 then akc (qZ n 9) else if qZ n 9=5 then apt else if qZ n 9=6 then apJ else if qZ n 9=7 then apy else ajX (qZ n 5)) t:=by
 have lq:=(F7 (c:=n) (n:=9) K).2;have cO:=(F7 (c:=n) (n:=5) K).2;split
 ·exact⟨_,apK (axL (qZ n 9) lq) K⟩
 ·split
  ·exact⟨_,apK axM K⟩
  ·split
   ·exact⟨_,axP⟩
   ·split
    ·exact⟨_,apK axN K⟩
    ·exact⟨_,apK (axO (qZ n 5) cO) K⟩
def aqq:∀(aq:Nat) (c:List Int),∃t,AW (5+aq) (sy aq c).1 t
 | aq,[]=>⟨_,apK (show AW 3 (sy aq []).1 _ from by cases aq<;>exact axK) r⟩
 | 0,n::c=>axQ n
 | aq+1,n::c=>by
  rw[sy];split
  ·obtain⟨t,h⟩:=aqq aq c;exact⟨_,h.not⟩
  ·split
   ·obtain⟨t,h⟩:=aqq aq c;obtain⟨ne,cC⟩:=aqq aq (sy aq c).2;by_cases hk:qZ n 9=1
    ·rw[if_pos hk];exact⟨_,h.two cC (.inl ⟨rfl,rfl⟩)⟩
    ·rw[if_neg hk];exact⟨_,h.two cC (.inr ⟨rfl,rfl⟩)⟩
   ·obtain⟨t,h⟩:=axQ n;exact⟨_,apK h r⟩
def axc(h:AW F T t)(PI:Nat)(hk:PI=16\/PI=20\/PI=21\/PI=22):jr PI T=32::jr 4 T:=by
 obtain⟨x,C,rfl,aa⟩:=h.head;rw[jr,jr];have cN:ap9 PI (dn x)=true:=by rcases hk with rfl | rfl | rfl | rfl<;>rcases aa with e | e | e | e<;>rw[e]<;>rfl
 have bL:ap9 4 (dn x)=false:=rfl;rw[cN,bL];rfl
def awx(h:AW F T t):jr 4 (VL::T)=[110,111,116,32]++jr 4 T:=by rw[jr,show dn VL=22 from ax,axc h 22 (.inr (.inr (.inr rfl)))];rfl
def awI{c0:List (List UInt8)}{s:aL}(hs:AW F c0 s)(au:AW F T t){j:List UInt8}(aS:j=aqb\/j=VN):jr 4 (adZ c0 T j)=[40]++jr 4 c0++[32]++j++[32]++jr 4 T++[41]:=by
 have hk:dn j=20\/dn j=21:=by
  rcases aS with rfl | rfl
  ·exact .inl ax
  ·exact .inr ax
 have cN:ap9 (bS.nI 4 c0) (dn j)=true:=by rcases hs.last 4 with e | e | e | e | e<;>rw[e]<;>rcases hk with bo | bo<;>rw[bo]<;>rfl
 have bL:ap9 (bS.nI (dn j) T) 5=false:=by rcases au.last (dn j) with e | e | e | e | e<;>rw[e]<;>rfl
 have J:jr (dn j) T=32::jr 4 T:=axc au _ (by rcases hk with e | e<;>omega);unfold adZ;rw[jr,show dn [40]=4 from ax,awa,jr,cN,awa,J,jr,show dn [41]=5 from ax,bL];simp[ap9,jr]
def vM(aq:Nat)(c:List Int):e6:=a7 (jr 4 (sy aq c).1)
def aqr(n:Int):List (List UInt8):=if qZ n 9<=4 then akc (qZ n 9) else if qZ n 9=5 then apt else if qZ n 9=6 then apJ else if qZ n 9=7 then apy else ajX (qZ n 5)
def PO(a b:e6):(a++b).data.toList=a.data.toList++b.data.toList:=by rw[ByteArray.data_append,Array.toList_append]
def apL(a b:e6):(a++b).size=a.size+b.size:=ByteArray.size_append
def axR(a b:List UInt8):a7 a++a7 b=a7 (a++b):=by apply ZX;rw[PO];rfl
def azc:∀k:Nat,k<9->(⟨#[97,46,120,32,62,32]⟩:e6)++im ((k:Int)-3)=a7 (jr 4 (akc k)):=by
 intro k hk;have:∀k:Nat,k<9->[97,46,120,32,62,32]++(im ((k:Int)-3)).data.toList=jr 4 (akc k):=by decide +kernel
 apply ZX;rw[PO];exact this k hk
def azd:∀k:Nat,k<5->(⟨#[40,97,46,120,32,43,32]⟩:e6)++im (k:Int)++⟨#[41,32,61,32,50]⟩=a7 (jr 4 (ajX k)):=by
 intro k hk;have:∀k:Nat,k<5->[40,97,46,120,32,43,32]++(im (k:Int)).data.toList++[41,32,61,32,50]=jr 4 (ajX k):=by decide +kernel
 apply ZX;rw[PO,PO];exact this k hk
def axS(aq:Nat)(c:List Int):(⟨#[110,111,116,32]⟩:e6)++vM aq c=a7 (jr 4 (VL::(sy aq c).1)):=by obtain⟨t,h⟩:=aqq aq c;rw[awx h];exact axR [110,111,116,32] _
def awJ(aq:Nat)(c e7:List Int):(⟨#[40]⟩:e6)++vM aq c++⟨#[32,97,110,100,32]⟩++vM aq e7++⟨#[41]⟩=a7 (jr 4 (adZ (sy aq c).1 (sy aq e7).1 aqb))/\(⟨#[40]⟩:e6)++vM aq c++⟨#[32,111,114,32]⟩++vM aq e7++⟨#[41]⟩=a7 (jr 4 (adZ (sy aq c).1 (sy aq e7).1 VN)):=by
 obtain⟨t,h⟩:=aqq aq c;obtain⟨ne,cC⟩:=aqq aq e7;constructor
 ·rw[awI h cC (.inl rfl)];apply ZX;rw[PO,PO,PO,PO];simp[vM,a7,aqb]
 ·rw[awI h cC (.inr rfl)];apply ZX;rw[PO,PO,PO,PO];simp[vM,a7,VN]
def axT(n:Int):(jr 4 (aqr n)).length<=50:=by
 have lq:=(F7 (c:=n) (n:=9) K).2;have cO:=(F7 (c:=n) (n:=5) K).2;unfold aqr;generalize qZ n 9=k at *;generalize qZ n 5=m at *;have key:∀k,k<9->∀m,m<5->(jr 4 (if k<=4 then akc k else if k=5 then apt else if k=6 then apJ else if k=7 then apy else ajX m)).length<=50:=by decide +kernel
 exact key k lq m cO
def atR:∀(aq:Nat) (c:List Int),(vM aq c).size<=50*4 ^ aq
 | aq,[]=>by
  have h1:1<=4 ^ aq:=Nat.one_le_pow _ _ K;have:(vM aq []).size=11:=by cases aq<;>kernel_rfl
  omega
 | 0,n::c=>by show(a7 (jr 4 (aqr n))).size<=_;have:=axT n;show(jr 4 (aqr n)).toArray.size<=_;simp;omega
 | aq+1,n::c=>by
  have aj:50*4 ^ (aq+1)=4*(50*4 ^ aq):=by rw[Nat.pow_succ];omega
  have h1:1<=4 ^ aq:=Nat.one_le_pow _ _ K;have cn:=atR aq c;have i2:=atR aq (sy aq c).2;have aze:∀l:List UInt8,(a7 l).size=l.length:=fun l=>by show l.toArray.size=_;simp
  have aAz:=axT n;unfold vM at *;rw[sy];split
  ·rw[<-axS,apL];show 4+(vM aq c).size<=_;unfold vM;omega
  ·split
   ·have t1:=(awJ aq c (sy aq c).2).1;have t2:=(awJ aq c (sy aq c).2).2;have Y:(a7 (jr 4 (adZ (sy aq c).1 (sy aq (sy aq c).2).1 aqb))).size<=2*(50*4 ^ aq)+7:=by rw[<-t1,apL,apL,apL,apL];show 1+(vM aq c).size+5+(vM aq (sy aq c).2).size+1<=_;unfold vM;omega
    have am:(a7 (jr 4 (adZ (sy aq c).1 (sy aq (sy aq c).2).1 VN))).size<=2*(50*4 ^ aq)+7:=by rw[<-t2,apL,apL,apL,apL];show 1+(vM aq c).size+4+(vM aq (sy aq c).2).size+1<=_;unfold vM;omega
    split
    ·show(a7 (jr 4 (adZ _ _ aqb))).size<=_;omega
    ·show(a7 (jr 4 (adZ _ _ VN))).size<=_;omega
   ·show(a7 (jr 4 (aqr n))).size<=_;rw[aze];omega
open Go.RowKit
def ahQ(w:World)(v:Value)(c:List Int):Prop:=(∃a af,v=.slice a c.length af/\c.length<=af/\(c=[]\/∃g off,a=some ⟨g,off,none⟩/\g<w.heap.size/\∀i (h:i<c.length),dp w g (off+i)=some (q c[i])))/\c.length<=1048576/\∀x∈c,-9223372036854775808<=x/\x<=9223372036854775807
def ahQ.below{w w':World}{v:Value}{c:List Int}(h:ahQ w v c)(A:Below w.heap.size w w'):ahQ w' v c:=by
 obtain⟨⟨a,af,e,X,h1⟩,H,ab⟩:=h;refine⟨⟨a,af,e,X,?_⟩,H,ab⟩;rcases h1 with h1 | ⟨g,off,am,R,ai⟩
 ·exact .inl h1
 ·exact .inr ⟨g,off,am,e0 R A.size,fun i hi=>(A.cell (p:=⟨g,off+i,none⟩) R).trans (ai i hi)⟩
def atS(aq:Nat):Prop:=∀(c:List Int) (v:Value) (W:World),ahQ W v c->ey 6 #[v,q (aq:Int)] W fun e aU=>∃cF,e=.returned (.tuple #[.string (vM aq c),cF])/\Hid (ahQ aU cF (sy aq c).2/\Below W.heap.size W aU)
def axd(aq:Nat)(bb:aq<=2)(aH:∀iA,aq=iA+1->atS iA):atS aq:=by
 intro c v W b1;cases c with
 | nil=>obtain⟨⟨a,af,rfl,X,-⟩,-,-⟩:=b1;rw[show vM aq []=⟨#[97,46,120,32,105,115,32,110,117,108,108]⟩ from by cases aq<;>kernel_rfl,show(sy aq []).2=[] from by cases aq<;>rfl];clear aH;go_enter func6,ntmps6;go_wp2_with fail;go_ret2;exact⟨_,rfl,u ⟨⟨⟨none,0,rfl,bu,.inl rfl⟩,K,fun x aa=>by cases aa⟩,Below.refl _ _⟩⟩
 | cons n c=>
  obtain⟨⟨a,af,rfl,X,uV⟩,azf,k7⟩:=b1;obtain⟨g,off,rfl,R,iV⟩:∃g off,a=some ⟨g,off,none⟩/\g<W.heap.size/\∀i (h:i<(n::c).length),dp W g (off+i)=some (q (n::c)[i]):=by
   rcases uV with h | h
   ·cases h
   ·exact h
  have DS:=iV 0 (by simp);rw[Nat.add_zero] at DS;replace DS:dp W g off=some (q n):=DS;rw[di] at X azf ⊢;have qD:Hid (∀aU,Below W.heap.size W aU->ahQ aU (.slice (if af=1 then some ⟨g,off,none⟩ else some ⟨g,off+1,none⟩) c.length (af-1)) c):=u (fun aU A=>⟨⟨_,_,rfl,r,by
   by_cases aw:c=[]
   ·exact .inl aw
   ·have uV:af≠1:=fun h=>aw (ma r);refine .inr ⟨g,off+1,if_neg uV,e0 R A.size,fun i hi=>(A.cell (p:=⟨g,off+1+i,none⟩) R).trans ?_⟩;have:=iV (i+1) (by simp;omega);rw[show off+(i+1)=off+1+i by omega] at this;exact this⟩,r,fun x aa=>k7 x (List.mem_cons_of_mem _ aa)⟩)
  obtain⟨bM,b9⟩:=k7 n (ax6 ..);have aqs:Hid (∀aU,ey 9 #[q n,q 9] aU (ov aU (q (qZ n 9:Int)))):=u (fun aU=>X7 n 9 aU bM b9 K K);have VA:Hid (∀aU,ey 9 #[q n,q 5] aU (ov aU (q (qZ n 5:Int)))):=u (fun aU=>X7 n 5 aU bM b9 K K);have lq:=(F7 (c:=n) (n:=9) K).2;have cO:=(F7 (c:=n) (n:=5) K).2;clear iV uV k7 bM b9;by_cases axe:aq≠0/\qZ n 9<=2
  ·obtain⟨atg,dR⟩:=axe;obtain⟨iA,rfl⟩:∃iA,aq=iA+1:=⟨aq-1,r⟩;have aN:Hid (∀(c:List Int) (v:Value) (W:World),ahQ W v c->ey 6 #[v,q (iA:Int)] W fun e aU=>∃c0 cF,e=.returned (.tuple #[.string c0,cF])/\(¬9223372036854775807<4+c0.size/\¬9223372036854775807<1+c0.size/\¬9223372036854775807<1+c0.size+5/\¬9223372036854775807<1+c0.size+4)/\c0.size<=1000/\Hid (c0=vM iA c/\ahQ aU cF (sy iA c).2/\Below W.heap.size W aU)):=u (fun c v W h=>(aH iA rfl c v W h).mono (by
    rintro e aU ⟨cF,rfl,aa⟩;have hs:(vM iA c).size<=1000:=by have:=atR iA c;rcases(by omega:iA=0\/iA=1) with rfl | rfl<;>omega
    exact⟨_,cF,rfl,r,hs,u ⟨rfl,aa.d.1,aa.d.2⟩⟩))
   have YJ:Hid (vM (iA+1) (n::c)=(if qZ n 9=0 then ⟨#[110,111,116,32]⟩++vM iA c else if qZ n 9=1 then ⟨#[40]⟩++vM iA c++⟨#[32,97,110,100,32]⟩++vM iA (sy iA c).2++⟨#[41]⟩ else ⟨#[40]⟩++vM iA c++⟨#[32,111,114,32]⟩++vM iA (sy iA c).2++⟨#[41]⟩)/\(sy (iA+1) (n::c)).2=if qZ n 9=0 then (sy iA c).2 else (sy iA (sy iA c).2).2):=u (by
    rw[axS,(awJ _ _ _).1,(awJ _ _ _).2];unfold vM;rw[sy];split
    ·exact⟨rfl,rfl⟩
    ·split
     ·exact⟨rfl,rfl⟩
     ·exact⟨rfl,rfl⟩)
   generalize qZ n 9=bV at *;clear aH VA cO;go_enter func6,ntmps6;go_upto_block 0 with(go_at_call 9;refine(aqs.d W).mono ?_;rintro e J ⟨rfl,rfl⟩);generalize (if af=1 then some (⟨g,off,none⟩:Addr) else some ⟨g,off+1,none⟩)=axU at *;have Cz:(0:Int)<(iA:Int)+1:=r;have aAA:IntKind.i64.wrap ((iA:Int)+1-1)=(iA:Int):=by rw[IntKind.wrap_i64];omega
   have xE:=qD.d W (Below.refl _ _);have yg:=u xE;clear DS aqs xE;rcases(by omega:bV=0\/bV=1\/bV=2) with rfl | rfl | rfl
   ·clear dR lq;go_wp2_with (go_at_call 6;refine(aN.d c _ W yg.d).mono ?_;rintro e S ⟨c0,cF,rfl,⟨b3,z2,z3,z4⟩,cv,jx⟩);go_ret2;exact⟨_,by rw[YJ.d.1,jx.d.1];rfl,u ⟨by rw[YJ.d.2];exact jx.d.2.1,jx.d.2.2⟩⟩
   all_goals
    clear dR lq;go_upto_region 12 with(first
     | (go_at_call 6;refine(aN.d _ _ S jx.d.2.1).mono ?_;rintro e aA ⟨jJ,v2,rfl,⟨h0,gR,lA,B6⟩,r8,kh⟩)
     | (go_at_call 6;refine(aN.d c _ W yg.d).mono ?_;rintro e S ⟨c0,v1,rfl,⟨b3,z2,z3,z4⟩,cv,jx⟩))
    have u1:¬9223372036854775807<1+c0.size+5+jJ.size:=r;have u2:¬9223372036854775807<1+c0.size+5+jJ.size+1:=r;have u3:¬9223372036854775807<1+c0.size+4+jJ.size:=r;have u4:¬9223372036854775807<1+c0.size+4+jJ.size+1:=r;go_wp2_with fail;go_ret2;exact⟨_,by rw[YJ.d.1,jx.d.1,kh.d.1];rfl,u ⟨by rw[YJ.d.2];exact kh.d.2.1,jx.d.2.2.trans (kh.d.2.2.mono jx.d.2.2.size)⟩⟩
  ·have aqt:Hid (vM aq (n::c)=a7 (jr 4 (aqr n))/\(sy aq (n::c)).2=c):=u (by
    unfold vM aqr;cases aq with
    | zero=>exact⟨rfl,rfl⟩
    | succ aq=>rw[sy,if_neg r,if_neg r];exact⟨rfl,rfl⟩)
   have arb:=u (azc (qZ n 9) lq);have are:=u (azd (qZ n 5) cO);have vS:Hid (∀(m:Int) (aU:World),-100<=m->m<=100->ey 8 #[q m] aU fun e w'=>∃Ys,e=.returned (.string Ys)/\(¬9223372036854775807<6+Ys.size/\¬9223372036854775807<7+Ys.size/\¬9223372036854775807<7+Ys.size+5)/\Hid (Ys=im m/\Below aU.heap.size aU w')):=u (fun m aU aw h1=>(JF m aU r r).mono (fun e w' h=>⟨_,h.1,by have:=Ik m r r;omega,u ⟨rfl,h.2⟩⟩));have atT:¬(aq≠0/\qZ n 9<=2):=axe;unfold aqr at aqt;generalize qZ n 9=bV at *;generalize qZ n 5=ox at *;clear aH axe;go_enter func6,ntmps6;go_upto_block 0 with(go_at_call 9;refine(aqs.d W).mono ?_;rintro e J ⟨rfl,rfl⟩);generalize (if af=1 then some (⟨g,off,none⟩:Addr) else some ⟨g,off+1,none⟩)=axU at *;clear DS
   have yS:Hid (∀aU,Below W.heap.size W aU->ahQ aU (.slice axU c.length (af-1)) (sy aq (n::c)).2):=u (fun aU A=>by rw[aqt.d.2];exact qD.d aU A);have C5:=aqt.d.1;by_cases dt:bV<=4
   ·rw[if_pos dt] at C5;rcases(by omega:bV=0\/bV=1\/bV=2\/bV=3\/bV=4) with rfl | rfl | rfl | rfl | rfl
    have atg:aq=0:=r;subst atg;rotate_left;have atg:aq=0:=r;subst atg;rotate_left;have atg:aq=0:=r;subst atg;rotate_left;rotate_left;rotate_left;all_goals
     rw[<-arb.d] at C5;have YJ:=u C5;clear C5 arb are aqt atT cO lq dt VA bb;go_wp2_with (first
      | (go_at_call 8;refine(vS.d _ W K K).mono ?_;rintro e S ⟨Ys,rfl,⟨b3,z2,z3⟩,jx⟩)
      | (go_at_call 9;refine(aqs.d W).mono ?_;rintro e J ⟨rfl,rfl⟩))
     go_ret2;exact⟨_,by rw[YJ.d,jx.d.1];rfl,u ⟨yS.d _ jx.d.2,jx.d.2⟩⟩
   ·rw[if_neg dt] at C5;rcases(by omega:bV=5\/bV=6\/bV=7\/bV=8) with rfl | rfl | rfl | rfl
    ·replace C5:vM aq (n::c)=a7 (jr 4 apt):=C5;have YJ:Hid (vM aq (n::c)=⟨#[97,46,121,32,61,32,39,97,98,39]⟩):=u (C5.trans ax);clear C5 arb are aqt atT cO lq dt VA bb vS aqs;go_wp2_with fail;go_ret2;exact⟨_,by rw[YJ.d];rfl,u ⟨yS.d _ (Below.refl _ _),Below.refl _ _⟩⟩
    ·replace C5:vM aq (n::c)=a7 (jr 4 apJ):=C5;have YJ:Hid (vM aq (n::c)=⟨#[101,120,105,115,116,115,32,40,115,101,108,101,99,116,32,98,46,120,32,102,114,111,109,32,116,32,98,32,119,104,101,114,101,32,98,46,120,32,60,32,97,46,120,41]⟩):=u (C5.trans ax);clear C5 arb are aqt atT cO lq dt VA bb vS aqs;go_wp2_with fail;go_ret2;exact⟨_,by rw[YJ.d];rfl,u ⟨yS.d _ (Below.refl _ _),Below.refl _ _⟩⟩
    ·replace C5:vM aq (n::c)=a7 (jr 4 apy):=C5;have YJ:Hid (vM aq (n::c)=⟨#[97,46,121,32,60,32,39,98,39]⟩):=u (C5.trans ax);clear C5 arb are aqt atT cO lq dt VA bb vS aqs;go_wp2_with fail;go_ret2;exact⟨_,by rw[YJ.d];rfl,u ⟨yS.d _ (Below.refl _ _),Below.refl _ _⟩⟩
    ·replace C5:vM aq (n::c)=a7 (jr 4 (ajX ox)):=C5;rw[<-are.d] at C5;have YJ:=u C5;have axf : -100<=(ox:Int)/\(ox:Int)<=100:=r;have ht:=u (vS.d (ox:Int) W axf.1 axf.2);clear C5 arb are aqt atT lq dt bb vS aqs axf;go_wp2_with (first
      | (go_at_call 8;refine ht.d.mono ?_;rintro e S ⟨Ys,rfl,⟨b3,z2,z3⟩,jx⟩)
      | (go_at_call 9;refine(VA.d W).mono ?_;rintro e J ⟨rfl,rfl⟩))
     go_ret2;exact⟨_,by rw[YJ.d,jx.d.1];rfl,u ⟨yS.d _ jx.d.2,jx.d.2⟩⟩
def azg:atS 0:=axd 0 K (fun _ h=>r)
def azh:atS 1:=axd 1 K (fun iA h=>(by omega:0=iA)▸azg)
def axV:atS 2:=axd 2 K (fun iA h=>(by omega:1=iA)▸azh)
