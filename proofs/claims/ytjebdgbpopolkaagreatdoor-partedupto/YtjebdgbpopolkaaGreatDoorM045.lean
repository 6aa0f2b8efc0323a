import Derived.Test.YtjebdgbpopolkaaGreatDoorM043
import Derived.Test.YtjebdgbpopolkaaGreatDoorM044
import Derived.Test.YtjebdgbpopolkaaGreatDoorM041
set_option maxHeartbeats 0
set_option maxRecDepth 100000
set_option linter.all false
namespace Go.Proofs.YtjebdgbpopolkaaGreatDoor
open Tryz
open bS
variable{C:Nat×List al}{st:az}{F m n:Nat}{T:List (List UInt8)}{t:aL}{B:List bG}{cm:je}{v:Nat×List al->Int}{cD:List (Int×Int)}
def YH:List eb:=[⟨fL,0,mA⟩]
def ajY:List dC:=[⟨xp,0,mA⟩]
def YC:List eO:=[⟨xp,mA⟩]
structure DT (B:List bG) (cm:je) (F:Nat) (T:List (List UInt8)) (t:aL) (m:Nat) (v:Nat×List al->Int):Prop where
 ahS:AW F T t
 dQ:eh YH ajY t=true
 ao:ga l0 t=false
 rU:h6 t=false
 ty:(hR YH t ajY).all (·.2)=true
 ev:∀C∈cm,∀st:az,st.ad=[C]->st.dE=false->st.eP+m<=20000->∃fi,bR B 0 t YC st=(v C,[],{st with eP:=st.eP+m,bF:=fi})
 v0:∀C∈cm,0<=v C/\v C<=2
 VM:isNone t=false
section
variable {B:List bG} {cm:je} {F G:Nat} {c0 T:List (List UInt8)} {s t:aL} {m n:Nat} {bp v:Nat×List al->Int}
def DT.not(h:DT B cm F T t m v):DT B cm (F+1) (VL::T) (iQ 14 (.cons t .nil)) m (fun C=>2-v C):=by
 refine⟨h.ahS.not,?_,?_,?_,?_,fun C ag st h1 H ab=>?_,fun C ag=>?_,rfl⟩
 ·show(eh YH ajY t&&true)=true;rw[h.dQ];rfl
 ·show(false||(ga l0 t||false))=false;rw[h.ao];rfl
 ·show(false||(h6 t||false))=false;rw[h.rU];rfl
 ·show(([if (hR YH t ajY++[]).all (·.2) then _ else _]:List (Nat×Bool)).all (·.2))=true;rw[List.append_nil,h.ty];rfl
 ·obtain⟨fi,e⟩:=h.ev C ag st h1 H ab;refine⟨fi,?_⟩;rw[iQ,bR,if_pos rfl,e]
 ·have:=h.v0 C ag;show 0<=2-v C/\2-v C<=2;omega
def DT.two(hs:DT B cm F c0 s m bp)(au:DT B cm F T t n v){j:List UInt8}{k:Nat}(aS:(j=aqb/\k=12)\/(j=VN/\k=13)):DT B cm (F+1) ([40]::(c0++j::(T++[[41]]))) (iQ k (.cons s (.cons t .nil))) (m+n) (fun C=>if k=12 then min (bp C) (v C) else max (bp C) (v C)):=by
 have hk:k=12\/k=13:=aS.imp (·.2) (·.2);refine⟨hs.ahS.two au.ahS aS,?_,?_,?_,?_,fun C ag st h1 H ab=>?_,fun C ag=>?_,rfl⟩
 ·rcases hk with rfl | rfl<;>
  ·show(eh YH ajY s&&(eh YH ajY t&&true))=true;rw[hs.dQ,au.dQ];rfl
 ·rcases hk with rfl | rfl<;>
  ·show(false||(ga l0 s||(ga l0 t||false)))=false;rw[hs.ao,au.ao];rfl
 ·rcases hk with rfl | rfl<;>
  ·show(false||(h6 s||(h6 t||false)))=false;rw[hs.rU,au.rU];rfl
 ·rcases hk with rfl | rfl<;>
  ·show(([if (hR YH s ajY++(hR YH t ajY++[])).all (·.2) then _ else _]:List (Nat×Bool)).all (·.2))=true;rw[List.append_nil,List.all_append,hs.ty,au.ty];rfl
 ·obtain⟨g1,Y⟩:=hs.ev C ag st h1 H r;obtain⟨g2,am⟩:=au.ev C ag {st with eP:=st.eP+m,bF:=g1} h1 H (by show st.eP+m+n<=20000;omega);refine⟨g2,?_⟩;rw[iQ,bR];simp only[Y,am];rcases hk with rfl | rfl
  ·rw[if_pos rfl,if_pos rfl];simp only[Nat.add_assoc]
  ·rw[if_neg K,if_pos rfl,if_neg K];simp only[Nat.add_assoc]
 ·have a:=hs.v0 C ag;have b:=au.v0 C ag;show 0<=(if k=12 then min (bp C) (v C) else max (bp C) (v C))/\(if k=12 then min (bp C) (v C) else max (bp C) (v C))<=2;split<;>omega
end
def Ga(C:Nat×List al):al:=C.2.getD 0 al.zero
def axj(C:Nat×List al):al:=C.2.getD 1 al.zero
def axk(h:st.ad=[C]):BP YC st xp YF=Ga C:=by unfold YC;rw[axG,h];rfl
def ax0(h:st.ad=[C]):BP YC st xp awt=axj C:=by unfold BP;rw[show L0 YC xp awt=some (0,1,2) from ax,h];rfl
def arf(st:az):({st with eP:=st.eP+0,bF:=st.bF}:az)=st:=by cases st;rfl
def axl(b:Bool):0<=rC b/\rC b<=2:=by cases b<;>decide
def awK(k:Nat)(a b:al):0<=pP k a b/\pP k a b<=2:=by
 unfold pP;split
 ·decide
 ·exact axl _
section
variable {B:List bG} {cm:je}
def azi:DT B cm 3 aw6 (iQ 19 (.cons (adx [120]) .nil)) 0 (fun C=>rC (decide ((Ga C).kind=0))):=by refine⟨axK,ax,ax,ax,ax,fun C _ st h1 _ _=>⟨st.bF,?_⟩,fun C _=>axl _,rfl⟩;rw[arf];show(rC (decide ((BP YC st xp YF).kind=0)),([]:List (List al×List (je))),st)=_;rw[axk h1]
def azj(k:Nat)(hk:k<9):DT B cm 3 (akc k) (iQ 18 (.cons (adx [120]) (.cons (aq4 ((k:Int)-3)) .nil))) 0 (fun C=>pP 18 (Ga C) ⟨1,(k:Int)-3,[]⟩):=by refine⟨axL k hk,rfl,rfl,rfl,rfl,fun C _ st h1 _ _=>⟨st.bF,?_⟩,fun C _=>awK _ _ _,rfl⟩;rw[arf];show(pP 18 (BP YC st xp YF) ⟨1,(k:Int)-3,[]⟩,([]:List (List al×List (je))),st)=_;rw[axk h1]
def azk:DT B cm 3 apt (iQ 16 (.cons (adx [121]) (.cons (aww [97,98]) .nil))) 0 (fun C=>pP 16 (axj C) ⟨2,0,[97,98]⟩):=by refine⟨axM,ax,ax,ax,ax,fun C _ st h1 _ _=>⟨st.bF,?_⟩,fun C _=>awK _ _ _,rfl⟩;rw[arf];show(pP 16 (BP YC st xp awt) ⟨2,0,[97,98]⟩,([]:List (List al×List (je))),st)=_;rw[ax0 h1]
def azl:DT B cm 3 apy (iQ 17 (.cons (adx [121]) (.cons (aww [98]) .nil))) 0 (fun C=>pP 17 (axj C) ⟨2,0,[98]⟩):=by refine⟨axN,ax,ax,ax,ax,fun C _ st h1 _ _=>⟨st.bF,?_⟩,fun C _=>awK _ _ _,rfl⟩;rw[arf];show(pP 17 (BP YC st xp awt) ⟨2,0,[98]⟩,([]:List (List al×List (je))),st)=_;rw[ax0 h1]
def axm(a:al)(n:Int):al:=if a.kind=0 then al.zero else iX (a.num+n)
def azm(b1:∀C∈cm,-1000<=(Ga C).num/\(Ga C).num<=1000)(k:Nat)(hk:k<5):DT B cm 3 (ajX k) (iQ 16 (.cons (iQ 4 (.cons (adx [120]) (.cons (aq4 (k:Int)) .nil))) (.cons (aq4 2) .nil))) 0 (fun C=>pP 16 (axm (Ga C) (k:Int)) ⟨1,2,[]⟩):=by
 refine⟨axO k hk,rfl,rfl,rfl,rfl,fun C ag st h1 _ _=>⟨st.bF,?_⟩,fun C _=>awK _ _ _,rfl⟩;rw[arf];have e:ca YC 0 (iQ 4 (.cons (adx [120]) (.cons (aq4 (k:Int)) .nil))) st=(axm (Ga C) (k:Int),st):=by
  show(if (BP YC st xp YF).kind=0\/(1:Nat)=0 then (al.zero,st) else iY ((BP YC st xp YF).num+(k:Int)) st)=_;rw[axk h1];unfold axm;by_cases aw:(Ga C).kind=0
  ·rw[if_pos (.inl aw),if_pos aw]
  ·rw[if_neg r,if_neg aw];unfold iY;rw[if_neg (by have:=b1 C ag;unfold lY;omega)]
 rw[iQ,bR,if_neg K,if_neg K,e];rfl
def azn(b1:gC B (fL,Na)=cm)(eU:ea B [(fL,Na)]=[⟨Na,mA⟩]):DT B cm 5 apJ (.node 15 ⟨#[]⟩ ⟨#[]⟩ al.zero .nil axb) cm.length (fun C=>rC (!((cm.filter fun x=>decide (pP 17 (Ga x) (Ga C)=2)).map fun x=>(([Ga x]:List al),[[x]])).isEmpty)):=by
 refine⟨axP,ax,ax,ax,ax,fun C ag st h1 H ab=>?_,fun C _=>axl _,rfl⟩;have p1:L0 [⟨xp,mA⟩,⟨Na,mA⟩] Na YF=some (1,0,1):=ax;have p2:L0 [⟨xp,mA⟩,⟨Na,mA⟩] xp YF=some (0,0,1):=ax;have A:∀x (fu:az),fu.ad=st.ad++[x]->BP [⟨xp,mA⟩,⟨Na,mA⟩] fu Na YF=Ga x:=fun x fu h=>by unfold BP;rw[p1,h,h1];rfl
 have ak:∀x (fu:az),fu.ad=st.ad++[x]->BP [⟨xp,mA⟩,⟨Na,mA⟩] fu xp YF=Ga C:=fun x fu h=>by unfold BP;rw[p2,h,h1];rfl
 obtain⟨fi,e⟩:=axY (B:=B) (O:=0) (e:=.cons (.node 1 ⟨#[98]⟩ ⟨#[120]⟩ al.zero .nil .nil) .nil) (wh:=iQ 17 (.cons (.node 1 ⟨#[98]⟩ ⟨#[120]⟩ al.zero .nil .nil) (.cons (adx [120]) .nil))) (s:=(fL,Na)) (I:=YC) (st:=st) (cm:=cm) (p:=fun x=>decide (pP 17 (Ga x) (Ga C)=2)) (m:=0) (f:=fun x=>[Ga x]) b1 rfl (fun x aa fu h _ _=>by
  refine⟨fu.bF,?_⟩;rw[arf,eU];show(decide (pP 17 (BP [⟨xp,mA⟩,⟨Na,mA⟩] fu Na YF) (BP [⟨xp,mA⟩,⟨Na,mA⟩] fu xp YF)=2),fu)=_;rw[A x fu h,ak x fu h]) (fun x aa fu h=>by
  rw[eU];show([BP [⟨xp,mA⟩,⟨Na,mA⟩] fu Na YF],fu)=_;rw[A x fu h]) H r
 refine⟨fi,?_⟩;have bo:(bR B 0 axb YC st).2=_:=e;rw[bR,if_pos rfl,bo];simp only[Nat.mul_zero,Nat.add_zero]
end
def G2:List (List UInt8):=[[115,101,108,101,99,116],[97],[46],[120],[102,114,111,109],[116],[97],[119,104,101,114,101]]
def akd:List UInt8:=[115,101,108,101,99,116,32,97,46,120,32,102,114,111,109,32,116,32,97,32,119,104,101,114,101,32]
def JY(T:List (List UInt8)):e6:=a7 (akd++jr 4 T)
def ax8(h:AW F T t):jr 0 (G2++T)=akd++jr 4 T:=by rw[awa,show bS.nI 0 G2=16 from ax,axc h 16 (.inl rfl),show jr 0 G2=[115,101,108,101,99,116,32,97,46,120,32,102,114,111,109,32,116,32,97,32,119,104,101,114,101] from ax];rfl
def azo:akb [] G2:=av9 100 (jr 0 G2) [] G2 ax
def azp(g:Nat)(dB:e4):bP (g+3) 2 (yc G2++dB)=(bP (g+2) 1 dB).bind fun y=>(if hk y.1=17 then (dq 18 y.1.tail).bind fun c=>gV (fun _=>hp) (c.2.length+1) c.2 else some (y.1,.nil)).bind fun il=>(if hk il.1=19 then bP (g+2) 1 il.1.tail else some (il.1,.nil)).bind fun z=>some (z.1,.query ara [(fL,xp)] y.2 il.2 z.2):=ax
def YV(t:aL):aL:=.query ara [(fL,xp)] t .nil .nil
def ax9(h:AW F T t)(hF:F<=20)(hs:(JY T).size<=400):hC (JY T)=some (yc (G2++T),YV t):=by
 have au:ku (JY T)=some (G2++T):=by
  rw[ayJ];show J1 ((JY T).size+1) (akd++jr 4 T) []=_;rw[<-ax8 h];refine axB _ _ _ _ (awj _ _ _ azo (h.chain _)) ?_;rw[ax8 h];show(akd++jr 4 T).length<(JY T).size+1;have:(JY T).size=(akd++jr 4 T).length:=by show(akd++jr 4 T).toArray.size=_;simp
  omega
 have Ae:∀aB:List (List UInt8),aB=(yc aB).map (·.data.toList):=fun aB=>by
  unfold yc;induction aB with
  | nil=>rfl
  | cons x C aH=>rw[List.map_cons,List.map_cons,<-aH];rfl
 refine Us hs (ts:=yc (G2++T)) (au.trans (congrArg some (Ae _))) ?_
 ·have e:yc (G2++T)=yc G2++(yc T++[]):=by have:=awX G2 T [];rw[List.append_nil] at this;exact this
  have c4:kE (yc (G2++T))=bP (8*(yc (G2++T)).length+8) 2 (yc (G2++T)):=by
   unfold kE;have Wm:hk (yc (G2++T))=14:=by rw[e];kernel_rfl
   rw[Wm,if_neg K,if_neg K];rfl
  have X:8<=(yc (G2++T)).length:=by unfold yc;rw[cZ,cu];show 8<=8+_;omega
  obtain⟨g,R⟩:∃g,8*(yc (G2++T)).length+8=g+3:=⟨8*(yc (G2++T)).length+5,rfl⟩;rw[c4,R,e,azp,h.parse _ _ r];rfl
def Y0(T:List (List UInt8))(t:aL):Nat:=if 400<(JY T).size then 1 else if 6<dep (YV t) then 2 else 0
def azq(h:DT B cm F T t m v)(hF:F<=20):hN YH (JY T)=Y0 T t:=by
 unfold hN Y0;by_cases hs:400<(JY T).size
 ·have:kq (JY T) [0]=1:=by unfold kq;rw[ES (.inl hs)]
  rw[this,if_pos hs,if_pos K]
 ·rw[if_neg hs];have ag:=ax9 h.ahS hF r;have W0:gq (yc (G2++T))=0:=by unfold gq;have Wm:hk (yc (G2++T))=14:=rfl;rw[Wm];rfl
  have ak:kq (JY T) [0]=if 6<dep (YV t) then 2 else 0:=by unfold kq;rw[ag];simp only[W0];rfl
  rw[ak];by_cases bb:6<dep (YV t)
  ·rw[if_pos bb,if_pos K]
  ·rw[if_neg bb,if_neg K,ag];show pj YH (YV t)=0;unfold pj;have Y:eh YH [] (YV t)=true:=by show(decide (1<=3)&&(true&&true&&eh YH ajY t&&true))=true;rw[h.dQ];rfl
   have am:h6 (YV t)=false:=by show(ga l0 t||h6 t||false||false)=false;rw[h.ao,h.rU];rfl
   have bm:(hR YH (YV t) []).all (·.2)=true:=by show(hR YH ara ajY++[]++hR YH t ajY++[]).all (·.2)=true;rw[List.append_nil,List.append_nil,List.all_append,h.ty];kernel_rfl
   rw[Y,if_pos rfl,am,if_neg K,bm,if_pos rfl]
def awL(cD:List (Int×Int))(n:Nat)(v:Nat×List al->Int):je:=(AU cD n).filter fun C=>decide (v C=2)
def ajZ(cD:List (Int×Int))(n:Nat)(v:Nat×List al->Int):List l7:=(kM pg ((awL cD n v).map fun C=>([Ga C],[(fL,(C.1:Int))]))).map nF
def azr(ar:n<=12)(h:DT (uM cD n).bY (AU cD n) F T t m v)(hm:m<=1600):oK (uM cD n).bY 0 [(fL,xp)] (YV t)=some (ajZ cD n v):=by
 have X:=Yl cD n;have Q6:(AU cD n).length*m<=12*1600:=Nat.mul_le_mul r hm;obtain⟨fi,e⟩:=axY (B:=(uM cD n).bY) (O:=0) (e:=ara) (wh:=t) (s:=(fL,xp)) (I:=[]) (st:=nG) (cm:=AU cD n) (p:=fun C=>decide (v C=2)) (m:=m) (f:=fun C=>[Ga C]) (ay4 cD n) rfl (fun C ag fu h1 H ab=>by
  obtain⟨fi,e⟩:=h.ev C ag fu h1 H ab;refine⟨fi,?_⟩;rw[List.nil_append,axH];unfold iZ;rw[h.VM,if_neg K];show(decide ((bR (uM cD n).bY 0 t YC fu).1=2),(bR (uM cD n).bY 0 t YC fu).2.2)=_;rw[e]) (fun C ag fu h1=>by
  rw[List.nil_append,axH,ay0,h1];rfl) rfl (by show 0+_+_<=20000;omega)
 unfold oK;have bo:(bR (uM cD n).bY 0 (YV t) [] nG).2=_:=e;rw[bo,if_neg (fun h=>by cases h),List.map_map];congr 3;apply List.map_congr_left;intro C _;show lG [(fL,xp)] ([Ga C],[[C]])=_;unfold lG;rw[show iO [(fL,xp)] [[C]] [(fL,xp)].length=[(fL,(C.1:Int))] from rfl,Yf]
def awM(cD:List (Int×Int))(n:Nat)(v:Nat×List al->Int):(ajZ cD n v).length=(awL cD n v).length:=by unfold ajZ kM;rw[cZ,List.length_mergeSort,cZ]
def aya(cD:List (Int×Int))(n:Nat)(v:Nat×List al->Int):∀o∈ajZ cD n v,∃C∈AU cD n,v C=2/\o=([a7 (iI (Ga C))],[(fL,(C.1:Int))]):=fun o ct=>by unfold ajZ kM at ct;obtain⟨x,aa,rfl⟩:=List.mem_map.1 ct;rw[List.mem_mergeSort] at aa;obtain⟨C,ag,rfl⟩:=List.mem_map.1 aa;unfold awL at ag;obtain⟨h1,H⟩:=List.mem_filter.1 ag;exact⟨C,h1,by simpa using H,rfl⟩
def azs{lK:Nat×List al}(h:C∈AU cD n)(cC:lK∈AU cD n)(e:C.1=lK.1):C=lK:=by
 rw[aw2] at h cC;obtain⟨k,_,rfl⟩:=List.mem_map.1 h;obtain⟨jY,_,rfl⟩:=List.mem_map.1 cC;have:k=jY:=by simpa using e
 rw[this]
def ayb(v:Nat×List al->Int):∀(l:je),(∀C∈l,0<=v C/\v C<=2)->(l.filter fun C=>decide (v C=2)).length+(l.filter fun C=>decide (2-v C=2)).length=(l.filter fun C=>decide ((if (13:Nat)=12 then min (v C) (2-v C) else max (v C) (2-v C))=2)).length
 | [],_=>rfl
 | C::l,h=>by
  have aH:=ayb v l (fun x aa=>h x (List.mem_cons_of_mem _ aa));have ag:=h C (ax6 ..);rw[List.filter_cons,List.filter_cons,List.filter_cons];rcases(by omega:v C=0\/v C=1\/v C=2) with e | e | e<;>rw[e]
  ·rw[if_neg K,if_pos K,if_pos K,di,di];omega
  ·rw[if_neg K,if_neg K,if_neg K];exact aH
  ·rw[if_pos K,if_neg K,if_pos K,di,di];omega
def DT.mono{G:Nat}(h:DT B cm F T t m v)(atQ:F<=G):DT B cm G T t m v:=⟨apK h.ahS atQ,h.dQ,h.ao,h.rU,h.ty,h.ev,h.v0,h.VM⟩
structure axn (B:List bG) (cm:je):Prop where
 up:gC B (fL,Na)=cm
 bQ:ea B [(fL,Na)]=[⟨Na,mA⟩]
 sm:∀C∈cm,-1000<=(Ga C).num/\(Ga C).num<=1000
 vc:cm.length<=12
def ayc(qc:axn B cm)(n:Int):∃t m v,DT B cm 5 (if qZ n 9<=4 then akc (qZ n 9) else if qZ n 9=5 then apt else if qZ n 9=6 then apJ else if qZ n 9=7 then apy else ajX (qZ n 5)) t m v/\m<=12:=by
 have lq:=(F7 (c:=n) (n:=9) K).2;have cO:=(F7 (c:=n) (n:=5) K).2;split
 ·exact⟨_,_,_,(azj (qZ n 9) lq).mono K,bu⟩
 ·split
  ·exact⟨_,_,_,azk.mono K,bu⟩
  ·split
   ·exact⟨_,_,_,azn qc.up qc.bQ,qc.vc⟩
   ·split
    ·exact⟨_,_,_,azl.mono K,bu⟩
    ·exact⟨_,_,_,(azm qc.sm (qZ n 5) cO).mono K,bu⟩
def awN{B:List bG}{cm:je}(qc:axn B cm):∀(aq:Nat) (c:List Int),∃t m v,DT B cm (5+aq) (sy aq c).1 t m v/\m<=12*2 ^ aq
 | aq,[]=>⟨_,_,_,(show DT B cm 3 (sy aq []).1 _ _ _ from by cases aq<;>exact azi).mono r,bu⟩
 | 0,n::c=>by obtain⟨t,m,v,h,hm⟩:=ayc qc n;exact⟨t,m,v,h,r⟩
 | aq+1,n::c=>by
  have aj:12*2 ^ (aq+1)=12*2 ^ aq+12*2 ^ aq:=by rw[Nat.pow_succ];omega
  have h1:1<=2 ^ aq:=Nat.one_le_two_pow;rw[sy];split
  ·obtain⟨t,m,v,h,hm⟩:=awN qc aq c;exact⟨_,_,_,h.not,r⟩
  ·split
   ·obtain⟨t,m,v,h,hm⟩:=awN qc aq c;obtain⟨ne,pQ,cF,cC,Q7⟩:=awN qc aq (sy aq c).2;by_cases hk:qZ n 9=1
    ·rw[if_pos hk];exact⟨_,_,_,h.two cC (.inl ⟨rfl,rfl⟩),r⟩
    ·rw[if_neg hk];exact⟨_,_,_,h.two cC (.inr ⟨rfl,rfl⟩),r⟩
   ·obtain⟨t,m,v,h,hm⟩:=ayc qc n;exact⟨t,m,v,h.mono r,r⟩
def azt(h:AW F T t):let e:=Y0 T t;let f:=Y0 (VL::T) (iQ 14 (.cons t .nil));let g:=Y0 (adZ T (VL::T) VN) (iQ 13 (.cons t (.cons (iQ 14 (.cons t .nil)) .nil)));(e=0\/e=1\/e=2)/\(e≠0->g=1\/g=2)/\(f≠0->f=2\/g=1)/\(g=0\/g=1\/g=2)/\(f=0\/f=1\/f=2):=by
 have s1:∀T,(JY T).size=26+(jr 4 T).length:=fun T=>by show(akd++jr 4 T).toArray.size=_;simp[akd];omega
 have l1:=congrArg List.length (awx h);have bT:=congrArg List.length (awI (apK h (Nat.le_succ F)) h.not (j:=VN) (.inr rfl));simp only[cu,di,List.length_nil] at l1 bT;have d1:dep (YV t)=1+max 1 (dep t):=by show 1+max 1 (max 0 (max (dep t) 0))=_;omega
 have d2:dep (YV (iQ 14 (.cons t .nil)))=2+dep t:=by show 1+max 1 (max 0 (max (1+max (dep t) 0) 0))=_;omega
 have d3:dep (YV (iQ 13 (.cons t (.cons (iQ 14 (.cons t .nil)) .nil))))=3+dep t:=by show 1+max 1 (max 0 (max (1+max (dep t) (max (1+max (dep t) 0) 0)) 0))=_;omega
 have aAB:VN.length=2:=rfl;intro e f g;simp only[e,f,g];unfold Y0;rw[s1,s1,s1,d1,d2,d3];refine⟨?_,?_,?_,?_,?_⟩;all_goals (repeat' split)<;>omega
