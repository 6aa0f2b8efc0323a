import Derived.Test.YtjebdgbpopolkaaGreatDoorM053
import Derived.Test.YtjebdgbpopolkaaGreatDoorM043
set_option maxHeartbeats 0
set_option maxRecDepth 100000
set_option linter.all false
namespace Go.Proofs.YtjebdgbpopolkaaGreatDoor
open Tryz
open Go.RowKit Go.Sort Go.Shelf
open bS
variable{W w:World}{cN bL n C:Nat}{cD:List (Int×Int)}
def aAg{dc:Option Addr}{gB i:Nat}{out:List l7}(h:fW 0 W (.slice dc n gB) out)(hi:i<out.length):∃g bt bD,dc=some ⟨g,0,none⟩/\dp W g (i*2+1)=some (.slice bt out[i].2.length bD)/\∀k (hk:k<out[i].2.length),∃U,bt=some ⟨U,0,none⟩/\dp W U (k*2+1)=some (q (out[i].2[k]).2):=by have ar:=aq3 h;obtain⟨bE,C,am,k⟩:=h;have aqg:i<bE.length:=r;have atO:n=bE.length:=r;rw[atO] at C;obtain⟨g,eX,R,bk,c1⟩:=Ps C i aqg;obtain⟨aI,aZ⟩:=k i aqg hi;obtain⟨bt,bD,bm⟩:=cG aZ;rw[bm] at c1 aZ;refine⟨g,bt,bD,eX,c1,fun k hk=>?_⟩;obtain⟨U,eq,_,_,c2⟩:=XI aZ k hk;exact⟨U,eq,c2⟩
def ap8(w:World)(cN bL:Nat)(cD:List (Int×Int))(n C:Nat)(W:World):Prop:=∃p,gQ w cN (Cb cD n p) bL (mB cD n) W/\(p.num=1/\p.since=2/\p.form=2)/\Il (uM cD n).bY p (UP C) W
def ap8.below{w W aU:World}{cN bL n C:Nat}{cD:List (Int×Int)}(h:ap8 w cN bL cD n C W)(A:Below W.heap.size W aU):ap8 w cN bL cD n C aU:=by obtain⟨p,h1,H,ab⟩:=h;exact⟨p,h1.below A,H,ab.below A⟩
def ap8.ho{w W:World}{cN bL n C:Nat}{cD:List (Int×Int)}(h:ap8 w cN bL cD n C W):Below w.heap.size w W:=by obtain⟨p,h1,_⟩:=h;exact h1.ho
def aAh(ar:n<=12)(H:2<=C)(ag:C<14)(h:gQ w cN (mB cD n) bL (mB cD n) W):ey 10 #[M cN,.string (aq5 C)] W fun e aU=>e=.returned (.tuple #[q 1,q 0])/\Hid (ap8 w cN bL cD n C aU):=by obtain⟨ap7,aqu⟩:=PG cD n ar;refine(az6 h ap7 (by show 0<6;omega) (by show 0<=1000000;omega) (aq5 C) (az8 _ _ _ _ _ C H ag)).mono ?_;rintro e aU ⟨rfl,aa⟩;obtain⟨ts,t,x,q1,bN,fR,iK⟩:=aa.d;obtain⟨rfl,f1,f2⟩:=az9 H ag q1;exact⟨rfl,u ⟨_,fR,⟨rfl,rfl,f1⟩,bN (by rw[f2];decide)⟩⟩
def aAi(ar:n<=12)(h:ap8 w cN bL cD n C W)(eH:e6):∃(PQ JN C2:Nat) (Nj vr:List l7),(PQ<=10/\C2<=10/\UO Nj/\UO vr)/\((C2=0/\akg C vr=true/\PQ=10/\JN=1/\Nj=[])\/((C2≠0\/akg C vr=false)/\PQ=C2/\JN=0/\Nj=vr))/\ey 7 #[M cN,.string ⟨#[117]⟩,.string eH] W fun e J=>∃a c,e=.returned (.tuple #[.agg #[.slice a Nj.length c,q (JN:Int)],q (PQ:Int)])/\Hid (fW 0 J (.slice a Nj.length c) Nj/\(∀h5,Below J.heap.size J h5->ey 7 #[M bL,.string ⟨#[117]⟩,.string eH] h5 fun e S=>∃a c,e=.returned (.tuple #[.agg #[.slice a vr.length c,q 0],q (C2:Int)])/\Hid (fW 0 S (.slice a vr.length c) vr/\ki h5 S/\Below w.heap.size w S))):=by
 obtain⟨p,h1,⟨p1,p2,fw⟩,ab⟩:=h;obtain⟨ap7,aqu⟩:=PG cD n ar;have lX:(uM cD n).bY=[⟨fL,mA,AU cD n,n+1⟩]:=rfl;obtain⟨PQ,JN,C2,Nj,vr,s,bp,Y,am,bm,hq,ol,s8,wj⟩:=aAe (cD:=cD) ar (C:=C) (PH (fun _=>UP C) (uM cD n)) p1 p2 fw eH;refine⟨PQ,JN,C2,Nj,vr,⟨bm,hq,ol,s8⟩,wj,?_⟩;have hk:=acn h1 ap7 aqu r lX atP (by show 1<=100;omega) (fun _=>UP C) (fun U ae=>by
  have zb:U∈[p]:=ae;obtain rfl:=ic zb;exact ab) hS eH K
 have aty:gE (PH (fun _=>UP C) (Cb cD n p).ck) (Cb cD n p) hS eH=⟨PQ,JN,Nj,s⟩:=Y;rw[aty] at hk;refine hk.mono ?_;rintro e J ⟨a,m,c,rfl,ct⟩;obtain⟨jH,k2,rk⟩:=ct.d;obtain rfl:=aq3 jH;refine⟨a,c,rfl,u ⟨jH,fun h5 A=>?_⟩⟩;have hk:=acn (k2.below A).swap ap7 aqu r lX atP bu (fun _=>UP C) (fun U ae=>by
  have zb:U∈[]:=ae;cases zb) hS eH K
 have aAj:gE (PH (fun _=>UP C) (mB cD n).ck) (mB cD n) hS eH=⟨C2,0,vr,bp⟩:=am;rw[aAj] at hk;refine hk.mono ?_;rintro e S ⟨a,m,c,rfl,ct⟩;obtain⟨jH,k2,rk⟩:=ct.d;obtain rfl:=aq3 jH;exact⟨a,c,rfl,u ⟨jH,rk,k2.ho⟩⟩
def aAk(C:Nat):(⟨#[101,118,101,114,32,115,101,108,101,99,116,32,122,46,105,100,32,102,114,111,109,32,116,111,117,99,104,32,122,32,119,104,101,114,101,32,40,122,46,116,97,98,32,61,32,39,116,39,32,97,110,100,32,122,46,114,111,119,32,61,32]⟩:e6)++im (C:Int)++⟨#[41]⟩=aq5 C:=by refine ZX ?_;rw[Gd,Gd];unfold aq5 a7;simp
def aq2(C:Nat)(z:e6×Int):Bool:=decide (z.2=(C:Int))
def atL(C:Nat)(o:l7):Bool:=o.2.any (aq2 C)
def ayy{α:Type}(f:α->Bool)(l:List α)(i:Nat)(h:i<l.length):(l.take (i+1)).any f=((l.take i).any f||f l[i]):=by rw[jD h,List.any_append,List.any_cons,List.any_nil,Bool.or_false]
def aAl(cD:List (Int×Int))(uN:Value)(raw:List Int)(b0:Value)(row:Int)(w:World)(dh:Ground w)(hit:CY w uN cD)(jA:ahQ w b0 raw)(ayz : -9223372036854775808<=row)(j0:row<=9223372036854775807):ey 4 #[uN,b0,q row] w (gU w (.bool true)):=by
 have ahT:min cD.length 12<=12:=Nat.min_le_right _ _;have tV:Hid (ey 5 #[uN] w fun e J=>∃b,e=.returned (M b)/\Hid (gF w b (mB cD (min cD.length 12)) J)):=u ((YO cD uN w dh hit).mono (by
  rintro e J ⟨b,rfl,hk⟩;exact⟨b,rfl,u hk⟩))
 have JP:Hid (∀J cN,gF w cN (mB cD (min cD.length 12)) J->ey 5 #[uN] J fun e S=>∃b,e=.returned (M b)/\Hid (gQ w cN (mB cD (min cD.length 12)) b (mB cD (min cD.length 12)) S)):=u (fun J cN h1=>(YO cD uN J h1.xo (hit.below h1.ho)).mono (by
  rintro e S ⟨b,rfl,hk⟩;exact⟨b,rfl,u (gQ.of h1 hk)⟩))
 have aN:Hid (∀ih,Below w.heap.size w ih->ey 6 #[b0,q 2] ih fun e aU=>∃cF,e=.returned (.tuple #[.string (vM 2 raw),cF])/\Hid (Below ih.heap.size ih aU)):=u (fun ih A=>(axV raw b0 ih (jA.below A)).mono (by
  rintro e aU ⟨cF,rfl,aa⟩;exact⟨cF,rfl,u aa.out.2⟩))
 have awO:=(F7 (c:=row) (n:=12) K).2;have aws:Hid (∀W,ey 9 #[q row,q 12] W (ov W (q (qZ row 12:Int)))):=u (fun W=>X7 row 12 W ayz j0 K K);have j2:=atR 2 raw;clear hit dh jA ayz j0;generalize min cD.length 12=VM at *;generalize vM 2 raw=aka at *;generalize qZ row 12=F0 at *;obtain⟨cm,b1⟩:∃cm:Nat,cm=2+F0:=⟨_,rfl⟩;have dW:2<=cm:=r;have aAm:cm<14:=r;have fr:IntKind.i64.wrap (2+(F0:Int))=(cm:Int):=by rw[IntKind.wrap_i64];omega
 have vS:Hid (∀W,ey 8 #[q (cm:Int)] W fun e w'=>e=.returned (.string (im (cm:Int)))/\Hid (Below W.heap.size W w')):=u (fun W=>(JF (cm:Int) W r r).mono (fun e w' h=>⟨h.1,u h.2⟩));have apF:Hid (∀W cN bL,gQ w cN (mB cD VM) bL (mB cD VM) W->ey 10 #[M cN,.string (⟨#[101,118,101,114,32,115,101,108,101,99,116,32,122,46,105,100,32,102,114,111,109,32,116,111,117,99,104,32,122,32,119,104,101,114,101,32,40,122,46,116,97,98,32,61,32,39,116,39,32,97,110,100,32,122,46,114,111,119,32,61,32]⟩++im (cm:Int)++⟨#[41]⟩)] W fun e aU=>e=.returned (.tuple #[q 1,q 0])/\Hid (ap8 w cN bL cD VM cm aU)):=u (fun W cN bL h=>by rw[aAk];exact aAh ahT dW aAm h)
 have M0:=u (fun (W:World) (cN bL:Nat) (h:ap8 w cN bL cD VM cm W)=>aAi ahT h (⟨#[115,101,108,101,99,116,32,97,46,120,44,32,97,46,121,32,102,114,111,109,32,116,32,97,32,119,104,101,114,101,32]⟩++aka));have BA:=Ik (cm:Int) r r;generalize im (cm:Int)=Ys at *;have b3:¬9223372036854775807<61+Ys.size:=r;have z2:¬9223372036854775807<61+Ys.size+1:=r;have z3:¬9223372036854775807<31+aka.size:=r;clear ahT j2 BA awO b1 dW;go_enter func4,ntmps4;go_upto_region 10 with(first
  | (go_at_call 6;refine(aN.out bI l9.out.ho).mono ?_;rintro e bh ⟨fl,rfl,rq⟩)
  | (go_at_call 10;refine(apF.out aA cN bL (iH.out.below l2.out)).mono ?_;rintro e bI ⟨rfl,l9⟩)
  | (go_at_call 8;refine(vS.out S).mono ?_;rintro e aA ⟨rfl,l2⟩)
  | (go_at_call 9;refine(aws.out S).mono ?_;rintro e aAH ⟨rfl,rfl⟩)
  | (go_at_call 5;refine(JP.out J cN H1.out).mono ?_;rintro e S ⟨bL,rfl,iH⟩)
  | (go_at_call 5;refine tV.out.mono ?_;rintro e J ⟨cN,rfl,H1⟩))
 obtain⟨PQ,JN,C2,Nj,vr,⟨s1,s2,dd,qQ⟩,ayA,cr⟩:=M0.out bh cN bL (l9.out.below rq.out);have eo:=u cr;have Ag:=u (And.intro dd qQ);have oD:=u ayA;clear cr dd qQ ayA M0 apF vS aws tV JP aN H1 iH l2 l9 rq b3 z2;go_upto_region 11 with(go_at_call 7;refine eo.out.mono ?_;rintro e cw ⟨dc,gB,rfl,p6⟩);have atU:=u (bH cw (.cells #[.slice dc Nj.length gB,q (JN:Int)] 30));have Ab:Below cw.heap.size cw (cw.alloc (.cells #[.slice dc Nj.length gB,q (JN:Int)] 30)):=cT;have atV:=u ((ki.below Ab).out p6.out.1);have dT:=u (p6.out.2 _ Ab);clear Ab p6 eo;generalize cw.alloc (.cells #[.slice dc Nj.length gB,q (JN:Int)] 30)=tH at *;generalize cw.heap.size=atW at *;go_upto_region 12 with(go_at_call 7;refine dT.out.mono ?_;rintro e mL ⟨rl,dx,rfl,xU⟩)
 have lz:Below mL.heap.size mL (mL.alloc (.cells #[.slice rl vr.length dx,q 0] 30)):=cT;have n11:=bH mL (.cells #[.slice rl vr.length dx,q 0] 30);obtain⟨jH,k2,rk⟩:=xU.out;have hF:=k2.trans (ki.below lz);have asl:=hF.other _ _ _ _ atU.out (F9 (.inr (.inr (.inr rfl))));have aAn:=u (hF.out atV.out);have ayB:=u ((ki.below lz).out jH);have avx:=u (Below.fK rk lz)
 have cW:Hid (∀aU,Below (mL.alloc (.cells #[.slice rl vr.length dx,q 0] 30)).heap.size (mL.alloc (.cells #[.slice rl vr.length dx,q 0] 30)) aU->dp aU atW 0=some (.slice dc Nj.length gB)/\dp aU atW 1=some (q (JN:Int))/\dp aU mL.heap.size 0=some (.slice rl vr.length dx)/\dp aU mL.heap.size 1=some (q 0)):=u (fun aU A=>⟨Z (Below.a8 A asl) (i:=0) rfl,Z (Below.a8 A asl) (i:=1) rfl,Z (Below.a8 A n11) (i:=0) rfl,Z (Below.a8 A n11) (i:=1) rfl⟩);clear lz n11 jH k2 rk hF asl xU atU atV dT z3;generalize mL.alloc (.cells #[.slice rl vr.length dx,q 0] 30)=YS at *;generalize mL.heap.size=atX at *;have ad2:vr.length<=1000000:=by have:=Ag.out.2.vc;omega
 go_upto_region 14 with fail;go_loopg [18,19,20] (vr.length+1) (fun U inv uN gr wr=>∃i:Nat,i<=vr.length/\uN=q (i:Int)/\inv=.bool ((vr.take i).any (atL cm))/\Hid (Below YS.heap.size YS wr)/\vr.length-i<U);case atStart=>exact⟨0,bu,rfl,rfl,u (Below.refl _ _),r⟩
 case round=>
  obtain⟨i,hi,rfl,rfl,D0,ae⟩:=hrel;by_cases atJ:i<vr.length
  ·have axt:(i:Int)<(vr.length:Int):=r;have aej:IntKind.i64.wrap ((i:Int)+1)=(i:Int)+1:=mC;obtain⟨g,bt,bD,rfl,g1,ayC⟩:=aAg ayB.out atJ;have aAo:=u ayC;have yq:=u (ayy (atL cm) vr i atJ);have iT:(vr[i].2).length<=1000000:=by have:=(Ag.out.2.atZ _ (ec atJ)).1;omega
   have aAp:Hid (atL cm vr[i]=(vr[i].2).any (aq2 cm)):=u rfl;clear ayC;generalize vr[i]=YE at *;have ch:=u ae;obtain⟨-,-,ji,-⟩:=cW.out wr D0.out;clear ae;generalize (vr.take i).any (atL cm)=xV at *;go_upto_region 17 with fail;obtain⟨FR,rfl⟩:∃x,x=gk:=⟨_,rfl⟩;clear ji;go_loopg [18,20] ((YE.2).length+1) (fun U inv gr wr=>∃k:Nat,k<=(YE.2).length/\gr=q (k:Int)/\inv=.bool (xV||((YE.2).take k).any (aq2 cm))/\Hid (Below YS.heap.size YS wr)/\(YE.2).length-k<U);case atStart=>exact⟨0,bu,rfl,by cases xV<;>rfl,D0,r⟩
   case round=>
    obtain⟨k,hk,rfl,rfl,jL,ae⟩:=hrel;obtain⟨-,-,ji,-⟩:=cW.out wr jL.out;have Y:=(jL.out.cell (World.block_lt_of_cell? _ _ g1)).trans g1;by_cases jl:k<(YE.2).length
    ·have JR:(k:Int)<((YE.2).length:Int):=r;have sU:IntKind.i64.wrap ((k:Int)+1)=(k:Int)+1:=mC;obtain⟨U,rfl,k6⟩:=aAo.out k jl;have am:=(jL.out.cell (World.block_lt_of_cell? _ _ k6)).trans k6;have mo:Hid ((xV||((YE.2).take (k+1)).any (aq2 cm))=((xV||((YE.2).take k).any (aq2 cm))||decide ((YE.2[k]).2=(cm:Int)))):=u (by rw[ayy (aq2 cm) (YE.2) k jl,<-Bool.or_assoc];rfl);have avb:=u ae;clear ae k6 g1;generalize (YE.2[k]).2=avl at *;generalize (xV||((YE.2).take k).any (aq2 cm))=zr at *;cases zr with
     | true=>
      rw[Bool.true_or] at mo;by_cases aY:avl=(cm:Int);all_goals
       go_wp2_with fail;have ae:=avb.out;go_roundg (gk-1);case measure=>omega
       case rel=>exact⟨k+1,r,by go_num,by rw[mo.out],jL,r⟩
     | false=>
      rw[Bool.false_or] at mo;by_cases aY:avl=(cm:Int)
      ·have Df:Hid (decide (avl=(cm:Int))=true):=u (ax3 aY);subst aY;go_wp2_with fail;have ae:=avb.out;go_roundg (gk-1);case measure=>omega
       case rel=>exact⟨k+1,r,by go_num,by rw[mo.out,Df.out],jL,r⟩
      ·have Df:Hid (decide (avl=(cm:Int))=false):=u (ax2 aY);have Gs:(avl==(cm:Int))=false:=cV.2 aY;go_wp2_with fail;have ae:=avb.out;go_roundg (gk-1);case measure=>omega
       case rel=>exact⟨k+1,r,by go_num,by rw[mo.out,Df.out],jL,r⟩
    ·have vq:k=(YE.2).length:=r;subst vq;have JR:¬((YE.2).length:Int)<((YE.2).length:Int):=r;have wN:Hid ((xV||(YE.2).any (aq2 cm))=(vr.take (i+1)).any (atL cm)):=u (by rw[yq.out,aAp.out]);rw[List.take_length];clear ae;go_wp2_with fail;have ae:=ch.out;go_roundg (FR-1);case measure=>omega
     case rel=>exact⟨i+1,r,by go_num,by rw[wN.out],jL,r⟩
  ·have LV:i=vr.length:=r;subst LV;have axt:¬(vr.length:Int)<(vr.length:Int):=r;have OS:Hid (Below w.heap.size w wr):=u (Below.fK avx.out D0.out);have ayD:(vr.take vr.length).any (atL cm)=akg cm vr:=by rw[List.take_length];rfl
   rw[ayD];obtain⟨ji,bM,b9,dm⟩:=cW.out wr D0.out;clear ae ayD;rcases oD.out with⟨h1,H,ab,aK,cO⟩ | ⟨h1,ab,aK,cO⟩
   ·rw[H];subst h1 ab aK cO;clear H oD cW dm;go_wp2_with fail;go_ret;exact⟨rfl,OS.out⟩
   ·have aAq:Hid (ey 11 #[.agg #[.slice dc vr.length gB,q 0],q (C2:Int)] wr fun e zx=>e=.returned (.string (a7 (PX C2 0 vr)))/\(dp zx atX 0=some (.slice rl vr.length dx)/\dp zx atX 1=some (q 0))/\Hid (Below wr.heap.size wr zx)):=u ((ans (.slice dc vr.length gB) 0 (C2:Int) vr wr (by have:=aAn.out.below D0.out;rw[cO] at this;exact this) Ag.out.2 K K r r).mono (by
     rintro e zx ⟨rfl,rO⟩;obtain⟨-,-,bk,c1⟩:=cW.out zx (Below.fK D0.out rO);exact⟨rfl,⟨bk,c1⟩,u rO⟩))
    have M4:Hid (∀zx,Below wr.heap.size wr zx->ey 11 #[.agg #[.slice rl vr.length dx,q 0],q (C2:Int)] zx fun e uZ=>e=.returned (.string (a7 (PX C2 0 vr)))/\Hid (Below zx.heap.size zx uZ)):=u (fun zx rO=>(ans (.slice rl vr.length dx) 0 (C2:Int) vr zx ((ayB.out.below D0.out).below rO) Ag.out.2 K K r r).mono (fun e uZ h=>⟨h.1,u h.2⟩));rw[cO] at ji;rw[aK] at bM;rw[ab];generalize a7 (PX C2 0 vr)=vK at *;have aAr:∃q1 bN:Bool,((C2:Int)==0)=q1/\akg cm vr=bN/\(q1=false\/bN=false):=by
     rcases h1 with h1 | h1
     ·exact⟨false,_,cV.2 r,rfl,.inl rfl⟩
     ·exact⟨_,false,rfl,h1,.inr rfl⟩
    obtain⟨q1,bN,FB,kL,aAs⟩:=aAr;rw[kL];clear h1 ab aK cO oD cW Ag kL dm;rcases(by revert aAs;cases q1<;>cases bN<;>simp:(q1=false/\bN=false)\/(q1=false/\bN=true)\/(q1=true/\bN=false)) with⟨rfl,rfl⟩ | ⟨rfl,rfl⟩ | ⟨rfl,rfl⟩
    all_goals
     go_wp2_with (first
      | (go_at_call 11;refine(M4.out zx arc.out).mono ?_;rintro e uZ ⟨rfl,aw1⟩)
      | (go_at_call 11;refine aAq.out.mono ?_;rintro e zx ⟨rfl,⟨atH,hx⟩,arc⟩))
     go_ret;exact⟨rfl,Below.fK (Below.fK OS.out arc.out) aw1.out⟩
