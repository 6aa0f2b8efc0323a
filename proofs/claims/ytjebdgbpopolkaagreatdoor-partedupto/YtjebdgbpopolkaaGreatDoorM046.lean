import Derived.Test.YtjebdgbpopolkaaGreatDoorM041
set_option maxHeartbeats 0
set_option maxRecDepth 100000
set_option linter.all false
namespace Go.Proofs.YtjebdgbpopolkaaGreatDoor
open Tryz
open bS
open Go.RowKit Go.Sort Go.Shelf
variable{t:aL}{W w:World}{b n:Nat}{cD:List (Int×Int)}{out:List l7}
def azu{s:e6}(h:(hC s).map (·.2)=some t):∃ts,hC s=some (ts,t):=by
 cases ag:hC s with
 | none=>rw[ag] at h;cases h
 | some x=>rw[ag] at h;obtain rfl:x.2=t:=bx h;exact⟨x.1,rfl⟩
def PP(w:World)(b:Nat)(cD:List (Int×Int))(n c:Nat)(W:World):Prop:=∃s,gF w b s W/\s.ck=uM cD n/\s.nj=[]/\s.ce.log.length<=c/\s.ce.ng.length<=60000*c/\s.ce.count<=c
def PP.below{w W aU:World}{b n c:Nat}{cD:List (Int×Int)}(h:PP w b cD n c W)(A:Below W.heap.size W aU):PP w b cD n c aU:=by obtain⟨s,k,C⟩:=h;exact⟨s,k.below A,C⟩
def PP.ho{w W:World}{b n c:Nat}{cD:List (Int×Int)}(h:PP w b cD n c W):Below w.heap.size w W:=by obtain⟨s,k,C⟩:=h;exact k.ho
def PP.of(h:gF w b (mB cD n) W):PP w b cD n 2 W:=⟨_,h,rfl,rfl,by show AT.ce.log.length<=2;decide,by show AT.ce.ng.length<=60000*2;decide,by show AT.ce.count<=2;decide⟩
def ayd{c:Nat}{eH:e6}(ar:n<=12)(ai:c<=10)(h:PP w b cD n c W)(H:hN (pq (uM cD n).bY) eH=0)(ab:(hC eH).map (·.2)=some t)(aK:oK (uM cD n).bY 0 (eM t) t=some out):ey 7 #[M b,.string ⟨#[117]⟩,.string eH] W fun e aU=>∃a e7,e=.returned (.tuple #[.agg #[.slice a out.length e7,q 0],q 0])/\Hid (fW 0 aU (.slice a out.length e7) out/\PP w b cD n (c+1) aU/\ki W aU):=by
 obtain⟨ts,ab⟩:=azu ab;obtain⟨⟨ck,ce,nj,last⟩,k,he,aj,hx,dL,jk⟩:=h;obtain⟨ap7,aqu⟩:=PG cD n ar;dsimp only at he aj hx dL jk;subst he aj;have hk:=Yi k ap7 aqu hS eH K (by show ce.log.length<=10000;omega) (by show ce.ng.length<=800000;omega) (by show ce.count<=1000000;omega) rfl;obtain⟨ko,CS,_,⟨e,wh,il,hv,r7⟩,iu⟩:=PA H ab;have hu:(hj (out.map (·.2))).length<=60000:=by
  refine(XG (bd:=(uM cD n).bY) (aqu.B ap7) (O:=0) K K (e:=e) (wh:=wh) (g:=il) (hv:=hv) (V:=eM t) ?_ ?_ iu ?_).2.2
  ·rw[<-r7];exact ko
  ·rw[<-r7];exact CS
  ·rw[<-r7];exact aK
 have hy:=Yg (f:=fun _ _=>false) (s:=⟨uM cD n,ce,[],last⟩) (cU:=hS) K H ab aK (by show ce.count<60;omega) rfl;rw[hy] at hk;refine hk.mono ?_;rintro e aU ⟨a,m,e7,rfl,ct⟩;have hm:=aq3 ct.d.1;subst hm;refine⟨a,e7,rfl,u ⟨ct.d.1,⟨_,ct.d.2.1,rfl,rfl,?_,?_,?_⟩,ct.d.2.2⟩⟩
 ·show(ce.log++[_]).length<=c+1;rw[cu,List.length_singleton];omega
 ·show(ce.ng++List.map _ _).length<=60000*(c+1);rw[cu,cZ];omega
 ·show ce.count+1<=c+1;omega
def azv{dc:Option Addr}{gB i:Nat}(h:fW 0 W (.slice dc n gB) out)(hi:i<out.length):∃g aC bA bt bD,dc=some ⟨g,0,none⟩/\dp W g (i*2)=some (.slice aC out[i].1.length bA)/\dp W g (i*2+1)=some (.slice bt out[i].2.length bD)/\∀k (hk:k<out[i].1.length),∃U,aC=some ⟨U,0,none⟩/\dp W U k=some (.string out[i].1[k]):=by have ar:=aq3 h;obtain⟨bE,C,am,k⟩:=h;have aqg:i<bE.length:=r;have atO:n=bE.length:=r;rw[atO] at C;obtain⟨g,eX,R,bk,c1⟩:=Ps C i aqg;obtain⟨aI,aZ⟩:=k i aqg hi;obtain⟨aC,bA,Y⟩:=cG aI;obtain⟨bt,bD,bm⟩:=cG aZ;rw[Y] at bk aI;rw[bm] at c1;refine⟨g,aC,bA,bt,bD,eX,bk,c1,fun k hk=>?_⟩;obtain⟨U,ev,_,nc⟩:=PF (l:=out[i].1) aI k hk;exact⟨U,ev,nc⟩
