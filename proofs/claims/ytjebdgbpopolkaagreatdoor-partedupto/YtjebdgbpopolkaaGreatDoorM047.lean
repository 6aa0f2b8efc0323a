import Derived.Test.YtjebdgbpopolkaaGreatDoorM045
import Derived.Test.YtjebdgbpopolkaaGreatDoorM046
set_option maxHeartbeats 0
set_option maxRecDepth 100000
set_option linter.all false
namespace Go.Proofs.YtjebdgbpopolkaaGreatDoor
open Tryz
open Go.RowKit Go.Sort Go.Shelf
open bS
variable{W w:World}{b c n:Nat}{cD:List (Int×Int)}{v:Nat×List al->Int}
def azw(cD:List (Int×Int))(n:Nat)(ar:n<=12):axn (uM cD n).bY (AU cD n):=by
 refine⟨axI cD n Na,ax,fun C ag=>?_,by rw[Yl];exact ar⟩;rw[aw2] at ag;obtain⟨k,_,rfl⟩:=List.mem_map.1 ag;show -1000<=(CW (cD.getD k (0,0)).1).num/\(CW (cD.getD k (0,0)).1).num<=1000;rw[ay3];have:=ay1 (cD.getD k (0,0)).1;unfold aw0;split
 ·decide
 ·show -1000<=((cls (cD.getD k (0,0)).1:Nat):Int)-4/\((cls (cD.getD k (0,0)).1:Nat):Int)-4<=1000;omega
def axo:e6:=⟨#[115,101,108,101,99,116,32,99,111,117,110,116,40,42,41,32,102,114,111,109,32,116,32,97]⟩
def azx:(hC axo).map (·.2)=some (.query (.cons atM .nil) [(fL,xp)] .nil .nil .nil):=ax
def azy(cm:je)(k:Nat):hN (pq [⟨fL,mA,cm,k⟩]) axo=0:=ax
def azz(cD:List (Int×Int))(n:Nat)(ar:n<=12):∃arh,oK (uM cD n).bY 0 [(fL,xp)] (.query (.cons atM .nil) [(fL,xp)] .nil .nil .nil)=some [([im (n:Int)],arh)]:=by
 have X:=Yl cD n;have b1:=axI cD n xp;have awO:=ay6 (B:=(uM cD n).bY) (s:=(fL,xp)) (bR (uM cD n).bY 0 .nil (ea (uM cD n).bY [(fL,xp)])) (by rw[b1,X];omega);rw[b1,X] at awO;have av:(mQ n nG).dE=false:=by simp[mQ,nG];omega
 have h:=ay7 (O:=0) (e:=.cons atM .nil) rfl awO av rfl;have h1:(bR (uM cD n).bY 0 (.query (.cons atM .nil) [(fL,xp)] .nil .nil .nil) [] nG).2.1=[([iX (((AU cD n).map fun C=>[C]).length:Int)],(AU cD n).map fun C=>[C])]:=h.1;have H:(bR (uM cD n).bY 0 (.query (.cons atM .nil) [(fL,xp)] .nil .nil .nil) [] nG).2.2.dE=false:=h.2.trans av;rw[cZ,X] at h1;exact⟨_,ay8 (V:=[(fL,xp)]) h1 H⟩
def azA{eH:e6}(ar:n<=12)(ai:c<=10)(h:PP w b cD n c W)(H:hN (pq (uM cD n).bY) eH≠0):ey 7 #[M b,.string ⟨#[117]⟩,.string eH] W fun e aU=>∃a e7,e=.returned (.tuple #[.agg #[.slice a 0 e7,q 0],q (hN (pq (uM cD n).bY) eH:Int)])/\Hid (fW 0 aU (.slice a 0 e7) []/\PP w b cD n (c+1) aU/\ki W aU):=by
 obtain⟨⟨ck,ce,nj,last⟩,k,he,aj,hx,dL,jk⟩:=h;obtain⟨ap7,aqu⟩:=PG cD n ar;dsimp only at he aj hx dL jk;subst he aj;have hk:=Yi k ap7 aqu hS eH K (by show ce.log.length<=10000;omega) (by show ce.ng.length<=800000;omega) (by show ce.count<=1000000;omega) rfl;have hy:gE (fun _ _=>false) ⟨uM cD n,ce,[],last⟩ hS eH=⟨hN (pq (uM cD n).bY) eH,0,[],⟨uM cD n,ce,[],last⟩⟩:=by unfold gE;rw[if_neg K,if_pos H]
 rw[hy] at hk;refine hk.mono ?_;rintro e aU ⟨a,m,e7,rfl,ct⟩;have hm:m=0:=aq3 ct.d.1;subst hm;exact⟨a,e7,rfl,u ⟨ct.d.1,⟨_,ct.d.2.1,rfl,rfl,by show ce.log.length<=c+1;omega,by show ce.ng.length<=60000*(c+1);omega,by show ce.count<=c+1;omega⟩,ct.d.2.2⟩⟩
def Zh(cD:List (Int×Int))(n:Nat)(T:List (List UInt8))(t:aL)(v:Nat×List al->Int):List l7:=if Y0 T t=0 then ajZ cD n v else []
def axp{F m:Nat}{T:List (List UInt8)}{t:aL}(ar:n<=12)(ai:c<=10)(h:PP w b cD n c W)(qc:DT (uM cD n).bY (AU cD n) F T t m v)(hF:F<=20)(hm:m<=1600):ey 7 #[M b,.string ⟨#[117]⟩,.string (JY T)] W fun e aU=>∃a e7,e=.returned (.tuple #[.agg #[.slice a (Zh cD n T t v).length e7,q 0],q (Y0 T t:Int)])/\Hid (fW 0 aU (.slice a (Zh cD n T t v).length e7) (Zh cD n T t v)/\PP w b cD n (c+1) aU/\ki W aU):=by
 have ae:hN (pq (uM cD n).bY) (JY T)=Y0 T t:=azq qc hF;by_cases aw:Y0 T t=0
 ·have hs:(JY T).size<=400:=by
   unfold Y0 at aw;split at aw
   ·cases aw
   ·omega
  have e:Zh cD n T t v=ajZ cD n v:=by unfold Zh;rw[if_pos aw]
  rw[aw,e];refine ayd ar ai h (ae.trans aw) (t:=YV t) (by rw[ax9 qc.ahS hF hs];rfl) (azr ar qc hm)
 ·have e:Zh cD n T t v=[]:=by unfold Zh;rw[if_neg aw]
  have:=azA ar ai h (eH:=JY T) (by rw[ae];exact aw);rw[ae] at this;rw[e];exact this
def azB(aq:Nat)(c:List Int):(⟨#[115,101,108,101,99,116,32,97,46,120,32,102,114,111,109,32,116,32,97,32,119,104,101,114,101,32]⟩:e6)++vM aq c=JY (sy aq c).1:=axR akd _
def azC(aq:Nat)(c:List Int):(⟨#[115,101,108,101,99,116,32,97,46,120,32,102,114,111,109,32,116,32,97,32,119,104,101,114,101,32,110,111,116,32]⟩:e6)++vM aq c=JY (VL::(sy aq c).1):=by obtain⟨t,h⟩:=aqq aq c;unfold JY;rw[awx h];apply ZX;rw[PO];rfl
def azD(aq:Nat)(c:List Int):(⟨#[115,101,108,101,99,116,32,97,46,120,32,102,114,111,109,32,116,32,97,32,119,104,101,114,101,32,40]⟩:e6)++vM aq c++⟨#[32,111,114,32,110,111,116,32]⟩++vM aq c++⟨#[41]⟩=JY (adZ (sy aq c).1 (VL::(sy aq c).1) VN):=by obtain⟨t,h⟩:=aqq aq c;unfold JY;rw[awI (apK h (Nat.le_succ _)) h.not (.inr rfl),awx h];apply ZX;rw[PO,PO,PO,PO];simp[vM,a7,akd,VN]
def azE{i k:Nat}(hi:i<(ajZ cD n v).length)(hk:k<(ajZ cD n fun C=>2-v C).length):∃(x y:e6) (p U:Int),(ajZ cD n v)[i]=([x],[(fL,p)])/\(ajZ cD n fun C=>2-v C)[k]=([y],[(fL,U)])/\p≠U:=by obtain⟨C,h1,H,ab⟩:=aya cD n v _ (ec hi);obtain⟨lK,og,pI,azF⟩:=aya cD n (fun C=>2-v C) _ (ec hk);refine⟨_,_,_,_,ab,azF,fun e=>?_⟩;have:C=lK:=azs h1 og r;subst this;have aK:2-v C=2:=pI;omega
structure azG (cD:List (Int×Int)) (n:Nat) (E F G:Nat) (aB bB D:List l7):Prop where
 Y:E=0\/E=1\/E=2
 am:E≠0->G=1\/G=2
 bm:F≠0->F=2\/G=1
 hq:G=0\/G=1\/G=2
 ol:F=0\/F=1\/F=2
 sm:aB.length<=12/\bB.length<=12/\D.length<=12
 len:E=0->F=0->G=0->aB.length+bB.length=D.length/\D.length<=n
 row:E=0->F=0->∀i (hi:i<aB.length) k (hk:k<bB.length),∃(x y:e6) (p U:Int),aB[i]=([x],[(⟨#[116]⟩,p)])/\bB[k]=([y],[(⟨#[116]⟩,U)])/\p≠U
def awP(w:World)(b:Nat)(cD:List (Int×Int))(n c:Nat)(eH:e6)(E:Nat)(aB:List l7):Prop:=∀W,PP w b cD n c W->ey 7 #[M b,.string ⟨#[117]⟩,.string eH] W fun e aU=>∃a e7,e=.returned (.tuple #[.agg #[.slice a aB.length e7,q 0],q (E:Int)])/\Hid (fW 0 aU (.slice a aB.length e7) aB/\PP w b cD n (c+1) aU/\ki W aU)
def azH(ar:n<=12)(T:List (List UInt8))(t:aL)(v:Nat×List al->Int):(Zh cD n T t v).length<=n:=by
 unfold Zh;split
 ·rw[awM];unfold awL;have:=List.length_filter_le (fun C=>decide (v C=2)) (AU cD n);rw[Yl] at this;exact this
 ·exact bu
def azI(w:World)(b:Nat)(cD:List (Int×Int))(n:Nat)(ar:n<=12)(raw:List Int):∃E F G aB bB D arh,azG cD n E F G aB bB D/\awP w b cD n 2 (⟨#[115,101,108,101,99,116,32,97,46,120,32,102,114,111,109,32,116,32,97,32,119,104,101,114,101,32]⟩++vM 2 raw) E aB/\awP w b cD n 3 (⟨#[115,101,108,101,99,116,32,97,46,120,32,102,114,111,109,32,116,32,97,32,119,104,101,114,101,32,110,111,116,32]⟩++vM 2 raw) F bB/\awP w b cD n 4 (⟨#[115,101,108,101,99,116,32,97,46,120,32,102,114,111,109,32,116,32,97,32,119,104,101,114,101,32,40]⟩++vM 2 raw++⟨#[32,111,114,32,110,111,116,32]⟩++vM 2 raw++⟨#[41]⟩) G D/\awP w b cD n 5 ⟨#[115,101,108,101,99,116,32,99,111,117,110,116,40,42,41,32,102,114,111,109,32,116,32,97]⟩ 0 [([im (n:Int)],arh)]:=by
 obtain⟨t,m,v,qc,hm⟩:=awN (azw cD n ar) 2 raw;have Q7:m<=48:=hm;have aye:=qc.not;have azJ:=(qc.mono (Nat.le_succ _)).two aye (.inr ⟨rfl,rfl⟩) (j:=VN) (k:=13);obtain⟨Y,am,bm,hq,ol⟩:=azt qc.ahS;obtain⟨arh,Xj⟩:=azz cD n ar;have hle:=fun T t v=>azH (cD:=cD) ar T t v
 refine⟨Y0 (sy 2 raw).1 t,Y0 (VL::(sy 2 raw).1) (iQ 14 (.cons t .nil)),Y0 (adZ (sy 2 raw).1 (VL::(sy 2 raw).1) VN) (iQ 13 (.cons t (.cons (iQ 14 (.cons t .nil)) .nil))),Zh cD n (sy 2 raw).1 t v,Zh cD n (VL::(sy 2 raw).1) (iQ 14 (.cons t .nil)) (fun C=>2-v C),Zh cD n (adZ (sy 2 raw).1 (VL::(sy 2 raw).1) VN) (iQ 13 (.cons t (.cons (iQ 14 (.cons t .nil)) .nil))) (fun C=>if (13:Nat)=12 then min (v C) (2-v C) else max (v C) (2-v C)),arh,⟨Y,am,bm,hq,ol,⟨bX (hle _ _ _) ar,bX (hle _ _ _) ar,bX (hle _ _ _) ar⟩,fun h1 H ab=>⟨?_,hle _ _ _⟩,fun h1 H i hi k hk=>?_⟩,?_,?_,?_,?_⟩
 ·unfold Zh;rw[if_pos h1,if_pos H,if_pos ab,awM,awM,awM];exact ayb v (AU cD n) (fun C ag=>qc.v0 C ag)
 ·unfold Zh at hi hk ⊢;simp only[if_pos h1,if_pos H] at hi hk ⊢;exact azE hi hk
 ·intro W e1;rw[azB];exact axp ar K e1 qc K r
 ·intro W e1;rw[azC];exact axp ar K e1 aye K r
 ·intro W e1;rw[azD];exact axp ar K e1 azJ K r
 ·intro W e1;exact ayd ar K e1 (eH:=axo) (azy _ _) azx Xj
def azK(cD:List (Int×Int))(uN:Value)(w:World)(dh:Ground w)(hit:CY w uN cD):ey 5 #[uN] w fun e w'=>∃b,e=.returned (M b)/\PP w b cD (min cD.length 12) 2 w':=(YO cD uN w dh hit).mono (by
 rintro e w' ⟨b,rfl,hk⟩;exact⟨b,rfl,PP.of hk⟩)
def azL(cD:List (Int×Int))(uN:Value)(raw:List Int)(b0:Value)(w:World)(dh:Ground w)(hit:CY w uN cD)(jA:ahQ w b0 raw):ey 3 #[uN,b0] w (gU w (.bool true)):=by
 have ahT:min cD.length 12<=12:=Nat.min_le_right _ _;have bK:=u (azK cD uN w dh hit);have aN:Hid (∀ih,Below w.heap.size w ih->ey 6 #[b0,q 2] ih fun e aU=>∃cF,e=.returned (.tuple #[.string (vM 2 raw),cF])/\Hid (Below ih.heap.size ih aU)):=u (fun ih A=>(axV raw b0 ih (jA.below A)).mono (by
  rintro e aU ⟨cF,rfl,aa⟩;exact⟨cF,rfl,u aa.out.2⟩))
 obtain⟨⟨akz,aAC,rfl,-⟩,BF,-⟩:=hit;have HU:Hid (min cD.length 12=if 12<cD.length then 12 else cD.length):=u (by split<;>omega);have ayf:=u (fun b=>azI w b cD (min cD.length 12) ahT raw);have j2:=atR 2 raw;generalize min cD.length 12=VM at *;generalize vM 2 raw=aka at *;have b3:¬9223372036854775807<26+aka.size:=r;have z2:¬9223372036854775807<30+aka.size:=r;have z3:¬9223372036854775807<27+aka.size:=r;have z4:¬9223372036854775807<27+aka.size+8:=r;have z5:¬9223372036854775807<27+aka.size+8+aka.size:=r;have R9:¬9223372036854775807<27+aka.size+8+aka.size+1:=r;clear dh jA j2;go_enter func3,ntmps3;go_upto_if 31 with(first
  | (go_at_call 6;refine(aN.out J H1.out.ho).mono ?_;rintro e S ⟨fl,rfl,iH⟩)
  | (go_at_call 5;refine bK.out.mono ?_;rintro e J ⟨b,rfl,ayg⟩;have H1:=u ayg;clear ayg))
 obtain⟨E,F,G,aB,bB,D,arh,axq,cr,bw,Bd,cS⟩:=ayf.out b;have aqv:=u axq;have eo:=u cr;have dT:=u bw;have ht:=u Bd;have bn:=u cS;have xA:=u (H1.out.below iH.out);have nL:=axq.sm;have Ag:=u nL;clear bK aN ayf axq cr bw Bd cS H1 iH nL;go_cut [8] (fun Ya wc=>Ya=q (VM:Int)/\wc=S);case first=>
  by_cases ayh:12<cD.length
  ·have azM:(12:Int)<(cD.length:Int):=r;have oG:Hid (VM=12):=u (by rw[HU.out,if_pos ayh]);go_wp2_with fail;go_meet;case rel=>exact⟨by rw[oG.out];rfl,rfl⟩
  ·have azM:¬(12:Int)<(cD.length:Int):=r;have oG:Hid (VM=cD.length):=u (by rw[HU.out,if_neg ayh]);go_wp2_with fail;go_meet;case rel=>exact⟨by rw[oG.out],rfl⟩
 case rest=>
  obtain⟨rfl,uj⟩:=hcut;subst uj;obtain⟨h5,rfl⟩:∃x,x=wc:=⟨_,rfl⟩;go_upto_region 9 with(go_at_call 7;refine(eo.out h5 xA.out).mono ?_;rintro e aA ⟨dc,gB,rfl,l2⟩);have atU:=u (bH aA (.cells #[.slice dc aB.length gB,q 0] 30));have cg:Below aA.heap.size aA (aA.alloc (.cells #[.slice dc aB.length gB,q 0] 30)):=cT;have ayi:=u (l2.out.2.1.below cg);have atV:=u ((ki.below cg).out l2.out.1);clear cg l2 xA eo b3;generalize aA.alloc (.cells #[.slice dc aB.length gB,q 0] 30)=lu at *;generalize aA.heap.size=atW at *;go_upto_region 10 with(go_at_call 7;refine(dT.out lu ayi.out).mono ?_;rintro e bI ⟨rl,dx,rfl,l9⟩);have ayj:=u (bH bI (.cells #[.slice rl bB.length dx,q 0] 30));have lM:Below bI.heap.size bI (bI.alloc (.cells #[.slice rl bB.length dx,q 0] 30)):=cT;have ayk:=u (l9.out.2.1.below lM)
  have ayl:=u ((ki.below lM).out l9.out.1);have axr:=u (l9.out.2.2.trans (ki.below lM));clear lM l9 ayi dT z2;generalize bI.alloc (.cells #[.slice rl bB.length dx,q 0] 30)=lU at *;generalize bI.heap.size=atX at *;go_upto_region 11 with(go_at_call 7;refine(ht.out lU ayk.out).mono ?_;rintro e bh ⟨awQ,ahS,rfl,rq⟩);have aym:=u (bH bh (.cells #[.slice awQ D.length ahS,q 0] 30));have iR:Below bh.heap.size bh (bh.alloc (.cells #[.slice awQ D.length ahS,q 0] 30)):=cT;have ayn:=u (rq.out.2.1.below iR);have atY:=u (rq.out.2.2.trans (ki.below iR));clear iR rq ayk ht z3 z4 z5 R9;generalize bh.alloc (.cells #[.slice awQ D.length ahS,q 0] 30)=asG at *;generalize bh.heap.size=azN at *;go_upto_region 12 with(go_at_call 7;refine(bn.out asG ayn.out).mono ?_;rintro e cw ⟨de,dz,rfl,p6⟩)
  have Ab:Below cw.heap.size cw (cw.alloc (.cells #[.slice de 1 dz,q 0] 30)):=cT;have atA:=u (p6.out.2.2.trans (ki.below Ab));have avx:=u (p6.out.2.1.below Ab).ho;have CD:=u ((ki.below Ab).out p6.out.1);have n15:=Z (bH cw (.cells #[.slice de 1 dz,q 0] 30)) (i:=0) rfl;clear Ab p6 ayn bn;generalize cw.alloc (.cells #[.slice de 1 dz,q 0] 30)=tH at *;generalize cw.heap.size=axs at *;have xS:¬oM 30:=F9 (.inr (.inr (.inr rfl)));have n13:=Z (atA.out.other _ _ _ _ aym.out xS) (i:=0) rfl;have n11:=Z ((atY.out.trans atA.out).other _ _ _ _ ayj.out xS) (i:=0) rfl;have ake:=Z ((axr.out.trans (atY.out.trans atA.out)).other _ _ _ _ atU.out xS) (i:=0) rfl;have azO:=u ((axr.out.trans (atY.out.trans atA.out)).out atV.out);have azP:=u ((atY.out.trans atA.out).out ayl.out)
  have IE:Hid (∀YS,Below tH.heap.size tH YS->dp YS atW 0=some (.slice dc aB.length gB)/\dp YS atX 0=some (.slice rl bB.length dx)/\dp YS azN 0=some (.slice awQ D.length ahS)):=u (fun YS A=>⟨(A.cell (World.block_lt_of_cell? _ _ ake)).trans ake,(A.cell (World.block_lt_of_cell? _ _ n11)).trans n11,(A.cell (World.block_lt_of_cell? _ _ n13)).trans n13⟩);clear axr atY atA atU ayj aym atV ayl xS;obtain⟨g,aC,bA,bt,bD,rfl,g0,-,gv⟩:=azv CD.out (i:=0) (show 0<1 by omega);obtain⟨U,rfl,k6⟩:=gv 0 (show 0<1 by omega);replace k6:dp tH U 0=some (.string (im (VM:Int))):=k6;replace g0:dp tH g 0=some (.slice (some ⟨U,0,none⟩) 1 bA):=g0;clear gv CD;rcases aqv.out.Y with rfl | rfl | rfl
  rotate_left;all_goals (try (have eU:=aqv.out.am K;clear n13 n11 ake n15 g0 k6;rcases eU with rfl | rfl<;>(go_wp2_with fail;go_ret;exact⟨rfl,avx.out⟩)))
  have uu:Hid (∀YS,Below tH.heap.size tH YS->dp YS axs 0=some (.slice (some ⟨g,0,none⟩) 1 dz)/\dp YS g 0=some (.slice (some ⟨U,0,none⟩) 1 bA)/\dp YS U 0=some (.string (im (VM:Int)))):=u (fun YS A=>⟨(A.cell (World.block_lt_of_cell? _ _ n15)).trans n15,(A.cell (World.block_lt_of_cell? _ _ g0)).trans g0,(A.cell (World.block_lt_of_cell? _ _ k6)).trans k6⟩);have vS:Hid (ey 8 #[q (VM:Int)] tH.drew fun x mL=>x=.returned (.string (im (VM:Int)))/\(dp mL axs 0=some (.slice (some ⟨g,0,none⟩) 1 dz)/\dp mL g 0=some (.slice (some ⟨U,0,none⟩) 1 bA)/\dp mL U 0=some (.string (im (VM:Int))))/\Hid (Below tH.heap.size tH mL)):=u ((JF (VM:Int) tH.drew r r).mono (by
   rintro x mL ⟨rfl,A⟩;have bg:Below tH.heap.size tH mL:=(show Below tH.heap.size tH tH.drew from⟨rfl,rfl,rfl,ap,fun _ _=>rfl⟩).trans (A.mono ap);exact⟨rfl,uu.out mL bg,u bg⟩))
  generalize im (VM:Int)=JN at *;clear ake n11 n13;go_upto_region 14 with fail;go_region_held3 (fun w'=>w'.cell? ⟨axs,0,none⟩=some (.slice (some ⟨g,0,none⟩) 1 dz)/\w'.cell? ⟨g,0,none⟩=some (.slice (some ⟨U,0,none⟩) 1 bA)/\w'.cell? ⟨U,0,none⟩=some (.string JN)) (go_keep) (first | (go_at_call 8;refine vS.out.mono ?_;rintro x mL ⟨rfl,⟨a0,bq,a2⟩,axC⟩));clear n15 g0 k6 a0 bq a2 uu vS;obtain⟨ake,n11,n13⟩:=IE.out mL axC.out;have ayo:Hid (Below w.heap.size w mL):=u (avx.out.trans (axC.out.mono avx.out.size));have xj:=u (aqv.out.row rfl);have azQ:=avx;by_cases atQ:F=0/\G=0
  ·obtain⟨rfl,rfl⟩:=atQ;obtain⟨kz,nu⟩:=aqv.out.len rfl rfl rfl;have nL:=Ag.out;have q8:IntKind.i64.wrap ((aB.length:Int)+(bB.length:Int))=(D.length:Int):=by rw[IntKind.wrap_i64];omega
   have azR:¬(VM:Int)<(D.length:Int):=r;have azS:(D.length:Int)<=(VM:Int):=r;have azT:=u (xj.out rfl);clear xj avx aqv Ag ayo;have ayp:=azQ;go_upto_region 21 with fail;clear ake n11 n13 kz nu azR azS q8;go_loopg [17,18] (aB.length+1) (fun U uN gr wr=>∃i:Nat,i<=aB.length/\uN=q (i:Int)/\Hid (Below tH.heap.size tH wr)/\aB.length-i<U);case atStart=>exact⟨0,bu,rfl,axC,r⟩
   case round=>
    obtain⟨i,hi,rfl,D0,ae⟩:=hrel;obtain⟨ake,n11,-⟩:=IE.out wr D0.out;by_cases atJ:i<aB.length
    ·have axt:(i:Int)<(aB.length:Int):=r;have aej:IntKind.i64.wrap ((i:Int)+1)=(i:Int)+1:=mC;have ch:=u ae;clear ae;go_upto_region 24 with fail;obtain⟨FR,rfl⟩:∃x,x=gk:=⟨_,rfl⟩;clear ake n11;go_loopg [18] (bB.length+1) (fun U gr wr=>∃k:Nat,k<=bB.length/\gr=q (k:Int)/\Hid (Below tH.heap.size tH wr)/\bB.length-k<U);case atStart=>exact⟨0,bu,rfl,D0,r⟩
     case round=>
      obtain⟨k,hk,rfl,jL,ae⟩:=hrel;obtain⟨ake,n11,-⟩:=IE.out wr jL.out;by_cases jl:k<bB.length
      ·have JR:(k:Int)<(bB.length:Int):=r;have sU:IntKind.i64.wrap ((k:Int)+1)=(k:Int)+1:=mC;obtain⟨x,y,p,ue,aa,hy,cy⟩:=azT.out i atJ k jl;obtain⟨bf,aAD,aAE,axu,azU,rfl,-,Y,-,bm,hq⟩:=axJ azO.out atJ aa;obtain⟨ij,aAF,aAG,axv,azV,rfl,-,f1,-,f3,f4⟩:=axJ azP.out jl hy;replace Y:=(jL.out.cell (World.block_lt_of_cell? _ _ Y)).trans Y;replace bm:=(jL.out.cell (World.block_lt_of_cell? _ _ bm)).trans bm;replace hq:=(jL.out.cell (World.block_lt_of_cell? _ _ hq)).trans hq;replace f1:=(jL.out.cell (World.block_lt_of_cell? _ _ f1)).trans f1;replace f3:=(jL.out.cell (World.block_lt_of_cell? _ _ f3)).trans f3;replace f4:=(jL.out.cell (World.block_lt_of_cell? _ _ f4)).trans f4;have n2:(p==ue)=false:=cV.2 cy;have avb:=u ae;clear ae aa hy;go_upto_region 26 with fail
       go_region_held3 (fun w'=>w'.cell? ⟨atW,0,none⟩=some (.slice (some ⟨bf,0,none⟩) aB.length gB)/\w'.cell? ⟨atX,0,none⟩=some (.slice (some ⟨ij,0,none⟩) bB.length dx)/\w'.cell? ⟨bf,i*2+1,none⟩=some (.slice (some ⟨axu,0,none⟩) 1 azU)/\w'.cell? ⟨ij,k*2+1,none⟩=some (.slice (some ⟨axv,0,none⟩) 1 azV)/\w'.cell? ⟨axu,0,none⟩=some (.string ⟨#[116]⟩)/\w'.cell? ⟨axu,1,none⟩=some (q p)/\w'.cell? ⟨axv,0,none⟩=some (.string ⟨#[116]⟩)/\w'.cell? ⟨axv,1,none⟩=some (q ue)) (go_keep) (fail);have AB:Hid (Below tH.heap.size tH wr.drew):=u (jL.out.trans (show Below tH.heap.size wr wr.drew from⟨rfl,rfl,rfl,ap,fun _ _=>rfl⟩));go_wp2_with fail;have ae:=avb.out;go_roundg (gk-1);case measure=>omega
       case rel=>exact⟨k+1,r,by go_num,by first | exact AB | exact jL,r⟩
      ·have vq:k=bB.length:=r;subst vq;have JR:¬(bB.length:Int)<(bB.length:Int):=r;clear ae;go_wp2_with fail;have ae:=ch.out;go_roundg (FR-1);case measure=>omega
       case rel=>exact⟨i+1,r,by go_num,jL,r⟩
    ·have LV:i=aB.length:=r;subst LV;have axt:¬(aB.length:Int)<(aB.length:Int):=r;have azW:Hid (Below w.heap.size w wr):=u (ayp.out.trans (D0.out.mono ayp.out.size));clear ae;go_wp2_with fail;go_ret;exact⟨rfl,azW.out⟩
  ·have bm:=aqv.out.bm;have hq:=aqv.out.hq;have ol:=aqv.out.ol;clear ake n11 n13 xj IE;rcases(by omega:(F=0/\G=1)\/(F=0/\G=2)\/(F=1/\G=1)\/(F=2/\G=0)\/(F=2/\G=1)\/(F=2/\G=2)) with⟨rfl,rfl⟩ | ⟨rfl,rfl⟩ | ⟨rfl,rfl⟩ | ⟨rfl,rfl⟩ | ⟨rfl,rfl⟩ | ⟨rfl,rfl⟩<;>clear bm hq ol atQ<;>(go_wp2_with fail;go_ret;exact⟨rfl,ayo.out⟩)
