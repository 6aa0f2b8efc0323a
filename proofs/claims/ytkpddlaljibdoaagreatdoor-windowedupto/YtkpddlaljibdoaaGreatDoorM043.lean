import Derived.Test.YtkpddlaljibdoaaGreatDoorM041
import Derived.Test.YtkpddlaljibdoaaGreatDoorM042
set_option maxHeartbeats 20000000
set_option maxRecDepth 100000
set_option linter.all false
namespace Go.Proofs.YtkpddlaljibdoaaGreatDoor
open Tryz
open bS
variable{s:ni}{eH cU:ByteArray}{ts:e4}{t wh:aL}{W aU w w':World}{N b c k lo n O gU:Nat}{a:Option Addr}{given l:List Nat}{F:Nat->Prop}{e:TypeId}{v:Value}{xs:List Value}{iy:bG}{j:qh}{td:List eb}{B:List bG}{p:n9}
def fL:ByteArray:=⟨#[116]⟩
def hS:ByteArray:=⟨#[117]⟩
def F8:ByteArray:=⟨#[120,58,105,44,121,58,116]⟩
def CU:ByteArray:=⟨#[115,101,108,101,99,116,32,97,46,120,44,32,97,46,121,32,102,114,111,109,32,116,32,97]⟩
def CV:ByteArray:=⟨#[115,101,108,101,99,116,32,97,46,120,32,102,114,111,109,32,116,32,97]⟩
def mA:List (ByteArray×Nat):=[(⟨#[120]⟩,1),(⟨#[121]⟩,2)]
theorem PE:lL Eb fL F8=(0,⟨[⟨fL,mA,[],0⟩],0⟩):=ax
theorem Yb:mF ⟨[⟨fL,mA,[],0⟩],0⟩ fL [⟨#[55]⟩,⟨#[39,113,39]⟩]=(1,0,⟨[⟨fL,mA,[(1,[⟨1,7,[]⟩,⟨2,0,[113]⟩])],1⟩],0⟩):=ax
theorem Yc:pz ⟨[⟨fL,mA,[(1,[⟨1,7,[]⟩,⟨2,0,[113]⟩])],1⟩],0⟩ fL 1=(0,⟨[⟨fL,mA,[],1⟩],0⟩):=ax
def t1:aL:=((hC CU).getD ([],.nil)).2
def t2:aL:=((hC CV).getD ([],.nil)).2
theorem aoR:hC CU=some (((hC CU).getD ([],.nil)).1,t1):=ax
theorem aoS:hC CV=some (((hC CV).getD ([],.nil)).1,t2):=ax
def r9:List bG:=[⟨fL,mA,[(1,[⟨1,7,[]⟩,⟨2,0,[113]⟩])],1⟩]
def vI:List bG:=[⟨fL,mA,[],1⟩]
theorem aoT:hN (pq r9) CU=0:=ax
theorem aoU:hN (pq vI) CV=0:=ax
theorem aoV:(bR r9 0 t1 [] nG).2.1=[([⟨1,7,[]⟩,⟨2,0,[113]⟩],[[(1,[⟨1,7,[]⟩,⟨2,0,[113]⟩])]])]:=ax
theorem aoW:(bR r9 0 t1 [] nG).2.2.dE=false:=ax
theorem aoX:(bR vI 0 t2 [] nG).2.1=[]:=ax
theorem aoY:(bR vI 0 t2 [] nG).2.2.dE=false:=ax
theorem aoZ:iO (eM t1) [[(1,[⟨1,7,[]⟩,⟨2,0,[113]⟩])]] (eM t1).length=[(fL,1)]:=ax
theorem Yd{α:Type}(ew:α->α->Int)(a:α):kM ew [a]=[a]:=by unfold kM;exact List.mergeSort_singleton a
theorem Ye{α:Type}(ew:α->α->Int):kM ew ([]:List α)=[]:=by unfold kM;exact List.mergeSort_nil
theorem ao0(t:fo):p7 [t]=[t]:=rfl
theorem Yf(t:fo):hj [[t]]=[t]:=by unfold hj;rw[show([[t]]:List (List fo)).flatten=[t] from rfl,Yd,ao0]
def JH:List l7:=[([⟨#[55]⟩,⟨#[39,113,39]⟩],[(fL,1)])]
theorem ao1:oK r9 0 (eM t1) t1=some JH:=by unfold oK;rw[aoW,aoV,if_neg K,List.map_cons,List.map_nil];unfold lG;simp only[];rw[aoZ,Yf,Yd];kernel_rfl
theorem ao2:oK vI 0 (eM t2) t2=some []:=by unfold oK;rw[aoY,aoX,if_neg K,List.map_nil,Ye];rfl
def JI:ni:=⟨⟨r9,0⟩,⟨[],[],0⟩,[],0⟩
def JJ:ni:=⟨⟨vI,0⟩,nh hS 0 [(fL,1)] ⟨[],[],0⟩,[],0⟩
def AT:ni:=⟨⟨vI,0⟩,nh hS 0 [] (nh hS 0 [(fL,1)] ⟨[],[],0⟩),[],0⟩
theorem Yg{f:qh->n9->Bool}{out:List l7}(h1:¬(cU.data.toList=[]\/jf cU.data.toList=false))(H:hN (pq s.ck.bY) eH=0)(ab:hC eH=some (ts,t))(aK:oK s.ck.bY s.ck.dS (eM t) t=some out)(cO:s.jr.count<60)(cE:s.nj=[]):gE f s cU eH=⟨0,0,out,{s with jr:=nh cU s.ck.dS (hj (out.map (·.2))) s.jr}⟩:=by unfold gE;rw[if_neg h1,if_neg (by rw[H];exact fun h=>h rfl),ab];simp only[];rw[aK];simp only[];rw[if_neg r,cE,if_neg (fun h=>h rfl)]
theorem ao3:hj []=[]:=by unfold hj;rw[show([]:List (List fo)).flatten=[] from rfl,Ye];rfl
theorem ao4(f:qh->n9->Bool):gE f JI hS CU=⟨0,0,JH,⟨⟨r9,0⟩,nh hS 0 [(fL,1)] ⟨[],[],0⟩,[],0⟩⟩:=by have h:=Yg (f:=f) (s:=JI) (cU:=hS) K aoT aoR ao1 K rfl;have hu:hj (JH.map (·.2))=[(fL,1)]:=Yf _;rw[hu] at h;exact h
theorem ao5(f:qh->n9->Bool):gE f JJ hS CV=⟨0,0,[],AT⟩:=by have h:=Yg (f:=f) (s:=JJ) (cU:=hS) K aoU aoS ao2 K rfl;rw[show(([]:List l7).map (·.2))=[] from rfl,ao3] at h;exact h
open Go.RowKit Go.Sort Go.Shelf
theorem PF{l:e4}(h:w.ownsRow lo 9 1 (.slice a n c) l.length (l.map Value.string))(i:Nat)(hi:i<l.length):∃g,a=some ⟨g,0,none⟩/\g<w.heap.size/\dp w g i=some (.string l[i]):=by obtain⟨nB,e7,e⟩:=cG h;injection e with Y am bm;subst Y am bm;obtain⟨g,e,R⟩:=vA h r;subst e;have bk:=h.cells rfl i (.string l[i]) (by rw[List.getElem?_map,fC hi];rfl);rw[Addr.add_lit,Nat.zero_add] at bk;exact⟨g,rfl,R,bk⟩
theorem F9{t:TypeId}(h:t=55\/t=9\/t=84\/t=32):¬oM t:=by unfold oM;rcases h with rfl | rfl | rfl | rfl<;>decide
structure ki (W aU:World):Prop where
 size:W.heap.size<=aU.heap.size
 other:∀(k:Nat) (cs:Array Value) (t:TypeId) (m:Nat×Nat),W.heap[k]?=some (.cells cs t m)->¬oM t->aU.heap[k]?=some (.cells cs t m)
theorem ki.of(h:da F W aU)(hF:∀k,F k->oN W k/\8<=k):ki W aU:=⟨h.size,fun k cs t m e ar=>by
 refine(h.block k (jq e) (fun hk=>?_)).trans e;obtain⟨⟨fU,e6,pQ,bo,Es⟩,_⟩:=hF k hk;rw[e] at bo;injection bo with bo;injection bo with _ bo;exact ar (bo▸Es)⟩
theorem ki.below(h:Below W.heap.size W aU):ki W aU:=⟨h.size,fun _ _ _ _ e _=>Below.a8 h e⟩
theorem ki.trans{a b c:World}(h:ki a b)(g:ki b c):ki a c:=⟨bX h.size g.size,fun k cs t m e ar=>g.other k cs t m (h.other k cs t m e ar) ar⟩
theorem ki.row(h:ki W aU){base:Nat}{size:Nat}(ar:¬oM e)(ag:W.ownsRow base e size v n xs):aU.ownsRow base e size v n xs:=by
 refine⟨ag.1,?_⟩;rcases ag.2 with aa | ⟨g,af,ay,rfl,X,en,rest⟩
 ·exact .inl aa
 ·exact .inr ⟨g,af,ay,rfl,X,h.other _ _ _ _ en ar,rest⟩
theorem ki.out{W aU:World}(h:ki W aU){v:Value}{out:List l7}(ct:fW 0 W v out):fW 0 aU v out:=by obtain⟨bE,h1,H,ab⟩:=ct;exact⟨bE,h.row (F9 (.inl rfl)) h1,H,fun i a b=>⟨h.row (F9 (.inr (.inl rfl))) (ab i a b).1,h.row (F9 (.inr (.inr (.inl rfl)))) (ab i a b).2⟩⟩
structure gF (w:World) (b:Nat) (s:ni) (W:World):Prop where
 own:∃F,nH F W b s/\∀k,F k->w.heap.size<=k
 ho:Below w.heap.size w W
 xo:Ground W
theorem gF.below{w W aU:World}{b:Nat}{s:ni}(h:gF w b s W)(A:Below W.heap.size W aU):gF w b s aU:=by obtain⟨⟨F,h1,H⟩,ab,aK⟩:=h;exact⟨⟨F,h1.aside (G:=fun _=>False) ⟨A.os,A.tape,A.output,A.size,fun k hk _=>A.block k hk⟩ (fun _ _=>id),H⟩,Below.fK ab A,aK.below A⟩
theorem gF.call{fu:ni}(aw:∀k,F k->oN W k/\8<=k)(hF:∀k,F k->w.heap.size<=k)(A:Below w.heap.size w W)(R:Ground W)(bi:vE F W b fu aU):gF w b fu aU/\ki W aU:=by
 obtain⟨F',aI,aZ,a6⟩:=bi;refine⟨⟨⟨F',aI,fun U ae=>?_⟩,⟨a6.os.trans A.os,a6.tape.trans A.tape,a6.output.trans A.output,bX A.size a6.size,fun U ae=>?_⟩,R.anx a6 (fun U ae=>(aw U ae).2)⟩,ki.of a6 aw⟩
 ·rcases aZ U ae with h | h
  ·exact hF U h
  ·exact bX A.size h
 ·exact(a6.block U (e0 ae A.size) (fun x=>by have:=hF U x;omega)).trans (A.block U ae)
theorem ao6(h:gF w b s W)(ok:hA N s.ck)(name bl:ByteArray)(ar:name.size<=2000000)(ai:bl.size<=2000000):ey 19 #[M b,.string name,.string bl] W fun e aU=>e=.returned (q ((lL s.ck name bl).1:Int))/\Hid (gF w b {s with ck:=(lL s.ck name bl).2} aU/\ki W aU):=by obtain⟨⟨F,h1,H⟩,ab,aK⟩:=h;refine(ant h1 aK.uJ.js ok aK.uJ name bl ar ai).mono ?_;rintro e aU ⟨rfl,bi⟩;exact⟨rfl,u (gF.call h1.1 H ab aK bi)⟩
theorem Yh(h:gF w b s W)(ok:hA N s.ck)(cS:N<=1000000000)(name:ByteArray)(U af:Nat)(ba:e4)(hv:zG W U ba)(ae:U<W.heap.size)(X:ba.length<=2000000)(hs:∀t∈ba,t.size<=2000000):ey 20 #[M b,.string name,.slice (some ⟨U,0,none⟩) ba.length af] W fun e aU=>e=.returned (.tuple #[q ((mF s.ck name ba).1:Int),q ((mF s.ck name ba).2.1:Int)])/\Hid (gF w b {s with ck:=(mF s.ck name ba).2.2} aU/\ki W aU):=by obtain⟨⟨F,h1,H⟩,ab,aK⟩:=h;refine(anu h1 aK.uJ.js ok cS name U af ba hv ae X hs).mono ?_;rintro e aU ⟨rfl,bi⟩;exact⟨rfl,u (gF.call h1.1 H ab aK bi)⟩
theorem ao7(h:gF w b s W)(ok:hA N s.ck)(name:ByteArray)(m:Int):ey 21 #[M b,.string name,q m] W fun e aU=>e=.returned (q ((pz s.ck name m).1:Int))/\Hid (gF w b {s with ck:=(pz s.ck name m).2} aU/\ki W aU):=by obtain⟨⟨F,h1,H⟩,ab,aK⟩:=h;refine(anv h1 aK.uJ.js ok name m).mono ?_;rintro e aU ⟨rfl,bi⟩;exact⟨rfl,u (gF.call h1.1 H ab aK bi)⟩
theorem Yi(h:gF w b s W)(ok:hA N s.ck)(fit:lw s.ck)(cU eH:ByteArray)(hu:cU.size<=1000000)(oE:s.jr.log.length<=10000)(kv:s.jr.ng.length<=800000)(wq:s.jr.count<=1000000)(aj:s.nj=[]):ey 9 #[M b,.string cU,.string eH] W fun e aU=>∃a n c,e=.returned (.tuple #[.agg #[.slice a n c,q ((gE (fun _ _=>false) s cU eH).Jt:Int)],q ((gE (fun _ _=>false) s cU eH).qk:Int)])/\Hid (fW 0 aU (.slice a n c) (gE (fun _ _=>false) s cU eH).out/\gF w b (gE (fun _ _=>false) s cU eH).FX aU/\ki W aU):=by
 obtain⟨⟨F,h1,H⟩,ab,aK⟩:=h;refine(XV (fun _ _=>false) h1 ok fit aK cU eH hu oE kv wq (by rw[aj];exact bu) (fun p AK=>by rw[aj] at AK;cases AK)).mono ?_;rintro e aU ⟨a,n,c,rfl,ct,bi⟩;exact⟨a,n,c,rfl,u ⟨ct,gF.call h1.1 H ab aK bi⟩⟩
theorem ao8(w:World)(R:Ground w):ey 18 #[] w fun e W=>∃b,e=.returned (M b)/\Hid (gF w b Js W):=by refine(anw w R.uJ.js).mono ?_;rintro e W ⟨k,F,rfl,h1,H,ab⟩;exact⟨k,rfl,u ⟨⟨F,h1,H⟩,ab,R.below ab⟩⟩
def JK(k:Nat):ByteArray:=if 10<=k then JG else im ((k:Int)-3)
def JL(k:Nat):ByteArray:=if k=5 then JG else a7 (39::(([97,98,99,100,101]:List UInt8).take k++[39]))
theorem ao9:∀k,k<12->(fy (JK k).data.toList).2=true/\((fy (JK k).data.toList).1.kind=0\/(fy (JK k).data.toList).1.kind=1)/\(JK k).size<=30:=by decide +kernel
theorem apa:∀k,k<6->(fy (JL k).data.toList).2=true/\((fy (JL k).data.toList).1.kind=0\/(fy (JL k).data.toList).1.kind=2)/\(JL k).size<=30:=by decide +kernel
def CW(c:Int):al:=(fy (nk c).data.toList).1
def CX(c:Int):al:=(fy (nl c).data.toList).1
theorem Yj(c:Int):bS.valOf (nk c)=some (CW c)/\((CW c).kind=0\/(CW c).kind=1)/\(nk c).size<=30:=by have h:=ao9 (qZ c 12) (F7 K).2;refine⟨?_,h.2.1,h.2.2⟩;unfold bS.valOf;have h1:(fy (nk c).data.toList).2=true:=h.1;rw[h1,if_pos rfl];rfl
theorem Yk(c:Int):bS.valOf (nl c)=some (CX c)/\((CX c).kind=0\/(CX c).kind=2)/\(nl c).size<=30:=by have h:=apa (qZ c 6) (F7 K).2;refine⟨?_,h.2.1,h.2.2⟩;unfold bS.valOf;have h1:(fy (nl c).data.toList).2=true:=h.1;rw[h1,if_pos rfl];rfl
def AU(cD:List (Int×Int)):Nat->je
 | 0=>[]
 | k+1=>AU cD k++[(k+2,[CW (cD.getD k (0,0)).1,CX (cD.getD k (0,0)).2])]
theorem Yl(cD:List (Int×Int)):∀k,(AU cD k).length=k
 | 0=>rfl
 | k+1=>by rw[AU,cu,Yl cD k];rfl
def uM(cD:List (Int×Int))(k:Nat):hG:=⟨[⟨fL,mA,AU cD k,k+1⟩],0⟩
def mB(cD:List (Int×Int))(k:Nat):ni:=⟨uM cD k,AT.jr,[],0⟩
theorem Ym(cD:List (Int×Int))(k:Nat)(hk:k<12):mF (uM cD k) fL [nk (cD.getD k (0,0)).1,nl (cD.getD k (0,0)).2]=(k+2,0,uM cD (k+1)):=by
 have av:fD (uM cD k).bY fL=some 0:=by unfold uM fD;rfl
 have bi:od ⟨fL,mA,AU cD k,k+1⟩ [nk (cD.getD k (0,0)).1,nl (cD.getD k (0,0)).2]=(k+2,0,⟨fL,mA,AU cD (k+1),k+2⟩):=by
  obtain⟨bM,b9,_⟩:=Yj (cD.getD k (0,0)).1;obtain⟨J,S,_⟩:=Yk (cD.getD k (0,0)).2;unfold od;rw[if_pos (show [nk (cD.getD k (0,0)).1,nl (cD.getD k (0,0)).2].length=mA.length from rfl)];have ak:iq bS.valOf [nk (cD.getD k (0,0)).1,nl (cD.getD k (0,0)).2]=some [CW (cD.getD k (0,0)).1,CX (cD.getD k (0,0)).2]:=by rw[iq,bM,iq,J,iq];rfl
  rw[ak];have au:q7 [CW (cD.getD k (0,0)).1,CX (cD.getD k (0,0)).2] mA=true:=by unfold mA;rw[q7,q7,q7];rcases b9 with e | e<;>rcases S with bo | bo<;>rw[e,bo]<;>rfl
  simp only[];rw[au,if_pos rfl,if_neg (by rw[Yl];omega)];rfl
 rw[Ht av (by show 0<1;omega)];have R:(uM cD k).bY[0]'(by show 0<1;omega)=⟨fL,mA,AU cD k,k+1⟩:=rfl;rw[R,bi];rfl
theorem PG(cD:List (Int×Int)):∀k,k<=12->hA (k+1) (uM cD k)/\lw (uM cD k)
 | 0,_=>by
  refine⟨⟨by show 1<=6;omega,fun t au=>?_,by show(0:Int)<=0;omega,by show(0:Int)<=1000000000000;omega⟩,fun t au=>?_⟩
  ·obtain rfl:=ic (show t∈[_] from au);exact⟨by show 1<=2;omega,by show 2<=4;omega,bu,ap,fun c ai=>by
    have k4:c∈mA:=ai;unfold mA at k4;rcases List.mem_cons.1 k4 with rfl | k4
    ·exact .inl rfl
    ·obtain rfl:=ic k4;exact .inr rfl⟩
  ·obtain rfl:=ic (show t∈[_] from au);exact⟨fun C ag=>absurd ag (List.not_mem_nil),(show iP fL.data.toList=true by decide),fun C ag=>absurd ag (List.not_mem_nil)⟩
 | k+1,h=>by obtain⟨h1,H⟩:=PG cD k r;have e:=Ym cD k r;have ab:=h1.insert fL [nk (cD.getD k (0,0)).1,nl (cD.getD k (0,0)).2];have aK:=H.insert fL [nk (cD.getD k (0,0)).1,nl (cD.getD k (0,0)).2];rw[e] at ab aK;exact⟨ab,aK⟩
def CY(w:World)(v:Value)(l:List (Int×Int)):Prop:=(∃a af,v=.slice a l.length af/\(l=[]\/∃g off,a=some ⟨g,off,none⟩/\g<w.heap.size/\∀i (h:i<l.length),dp w g (off+i*2)=some (q l[i].1)/\dp w g (off+i*2+1)=some (q l[i].2)))/\l.length<=1048576/\∀x∈l,-9223372036854775808<=x.1/\x.1<=9223372036854775807/\-9223372036854775808<=x.2/\x.2<=9223372036854775807
theorem atc{V:lh}{aG:ez}{i:Nat}{t:fo}(h:t∈hP V aG i):(t.1=⟨#[]⟩\/∃s∈V,t.1=s.1)/\(t.2=0\/∃c∈aG,∃C∈c,t.2=(C.1:Int)):=by
 unfold hP at h;obtain⟨c,ai,rfl⟩:=List.mem_map.1 h;refine⟨?_,?_⟩
 ·by_cases hi:i<V.length
  ·refine .inr ⟨V[i],ec hi,?_⟩;show(V.getD i _).1=_;rw[List.getD_eq_getElem?_getD,fC hi];rfl
  ·left;show(V.getD i _).1=_;rw[List.getD_eq_getElem?_getD,List.getElem?_eq_none r];rfl
 ·by_cases hi:i<c.length
  ·refine .inr ⟨c,ai,c[i],ec hi,?_⟩;show(((c.getD i _).1:Nat):Int)=_;rw[List.getD_eq_getElem?_getD,fC hi];rfl
  ·left;show(((c.getD i _).1:Nat):Int)=_;rw[List.getD_eq_getElem?_getD,List.getElem?_eq_none r];rfl
theorem ave{s:List UInt8}(h:iP s=true):jf s=true:=by unfold iP yU at h;simp only[Bool.and_eq_true,decide_eq_true_eq] at h;unfold jf;rw[Bool.and_eq_true];exact⟨List.all_eq_true.2 fun c ai=>by rw[List.all_eq_true.1 h.1.1.1 c ai];rfl,decide_eq_true r⟩
def Yr(iy:bG):List fo:=[(⟨#[]⟩:ByteArray),iy.name].flatMap fun n=>(0::iy.ad.map fun C=>(C.1:Int)).map fun k=>(n,k)
theorem avf(iy:bG):(Yr iy).length=2*(iy.ad.length+1):=by unfold Yr;simp;omega
theorem avg{t:fo}(h1:t.1=⟨#[]⟩\/t.1=iy.name)(H:t.2=0\/∃C∈iy.ad,t.2=(C.1:Int)):t∈Yr iy:=by
 unfold Yr;obtain⟨a,b⟩:=t;refine List.mem_flatMap.2 ⟨a,?_,List.mem_map.2 ⟨b,?_,rfl⟩⟩
 ·rcases h1 with rfl | rfl<;>simp
 ·rcases H with rfl | ⟨C,ag,rfl⟩
  ·simp
  ·exact List.mem_cons_of_mem _ (List.mem_map.2 ⟨C,ag,rfl⟩)
theorem avh(au:s.ck.bY=[iy])(ok:hA N s.ck)(fit:lw s.ck)(h:apq s cU eH j):∃ts,j=nh cU s.ck.dS ts s.jr/\s.jr.count<60/\jf cU.data.toList=true/\ts.length<=2*(iy.ad.length+1)/\∀t∈ts,t∈Yr iy:=by
 obtain⟨td,avZ,t,out,hrel,ae,ag,ak,ai,hw,rfl⟩:=h;refine⟨_,rfl,ai,hw,?_⟩;have key:∀x∈(out.map (·.2)).flatten,x∈Yr iy:=by
  obtain⟨ko,CS,_,⟨e,wh,il,hv,r7⟩,iu⟩:=PA ae ag;have bi:=fit.B ok;have bM : -1000000000000<=s.ck.dS:=by have:=ok.zN;omega
  have gA:=(UQ (P:=fun C=>C∈iy.ad) (B:=s.ck.bY) (fun fu C ag=>by
   rcases L4 s.ck.bY fu with⟨aw,_⟩ | ⟨av0,lX,aw,_⟩
   ·rw[aw] at ag;cases ag
   ·rw[aw] at ag;rw[au] at lX;obtain rfl:=ic lX;exact ag) s.ck.dS (.query e (eM t) wh il hv) [] nG ⟨fun C ag=>(by cases ag),fun c ai=>(by cases ai)⟩).1
  have aqc:∀fu∈eM t,fu.1=iy.name:=by
   have ut:eh td [] t=true:=by
    unfold hN at ae;split at ae
    ·rename_i h;exact absurd ae h
    ·rw[ag] at ae;have zb:pj td t=0:=ae;unfold pj at zb;split at zb
     ·rename_i h;exact h
     ·cases zb
   rw[r7,eh,Bool.and_eq_true] at ut;cases aa:hd td [] (eM t) with
   | none=>rw[aa] at ut;exact absurd ut.2 (by simp)
   | some bU=>
    obtain⟨_,_,ab,_⟩:=Jc hrel (eM t) [] bU aa;intro fu hs;obtain⟨i,hi⟩:=ab fu hs;obtain⟨X,ar⟩:=W5 hi;have tZ:∀x∈s.ck.bY,x=iy:=by rw[au];intro x aa;exact ic aa
    rw[<-ar];exact congrArg bG.name (tZ _ (ec X))
  have y7:oK s.ck.bY s.ck.dS (eM t) (.query e (eM t) wh il hv)=some out:=by rw[<-r7];exact ak
  unfold oK at y7;split at y7
  ·cases y7
  obtain rfl:=bx y7;intro x aa;obtain⟨l,X,mI⟩:=List.mem_flatten.1 aa;obtain⟨o,ct,rfl⟩:=List.mem_map.1 X;obtain⟨a,avi,rfl⟩:=List.mem_map.1 ct;obtain⟨y,cn,rfl⟩:=List.mem_map.1 ((sS pg _).mem_iff.1 avi);have hm:=(apo [iO (eM t) y.2 (eM t).length]).2.1 x mI;rw[List.flatten_cons,List.flatten_nil,List.append_nil] at hm;unfold iO at hm;obtain⟨i,_,hm⟩:=List.mem_flatMap.1 hm;obtain⟨m1,m2⟩:=atc hm;refine avg ?_ ?_
  ·rcases m1 with m1 | ⟨fu,hs,m1⟩
   ·exact .inl m1
   ·exact .inr (m1.trans (aqc fu hs))
  ·rcases m2 with m2 | ⟨c,k4,lK,tw,m2⟩
   ·exact .inl m2
   ·exact .inr ⟨lK,gA y cn c k4 lK tw,m2⟩
 refine⟨?_,fun x aa=>key x ((apo _).2.1 x aa)⟩;rw[<-avf];exact(apo (out.map (·.2))).2.2 (Yr iy) key
theorem apA(au:s.ck.bY=[iy])(ok:hA N s.ck)(fit:lw s.ck)(cS:N<=1000000000)(aS:JW s.jr)(h:apq s cU eH j):JW j:=by
 obtain⟨ts,rfl,ai,hw,X,hm⟩:=avh au ok fit h;have nT:iy∈s.ck.bY:=by rw[au];exact List.mem_singleton.2 rfl
 have yY:=(ok.B iy nT).Ea;have bM : -1000000000000<=s.ck.dS:=by have:=ok.zN;omega
 refine aS.with ai hw bM ok.ya r (fun t vg=>?_);have:=hm t vg;unfold Yr at this;obtain⟨a,ak,H⟩:=List.mem_flatMap.1 this;obtain⟨b,A,rfl⟩:=List.mem_map.1 H;refine⟨?_,?_⟩
 ·rcases List.mem_cons.1 ak with rfl | ak
  ·show jf []=true;decide
  ·obtain rfl:=ic ak;exact ave (fit iy nT).name
 ·rcases List.mem_cons.1 A with rfl | A
  ·show(-1000000000000:Int)<=0/\(0:Int)<=1000000000000;omega
  ·obtain⟨C,ag,rfl⟩:=List.mem_map.1 A;have:=(fit iy nT).num C ag;have:=(ok.B iy nT).last;show -1000000000000<=((C.1:Nat):Int)/\((C.1:Nat):Int)<=1000000000000;omega
theorem vE.later(A:Below w.heap.size w W)(h:vE F W b s w'):vE F w b s w':=by obtain⟨F',aI,aZ,a6⟩:=h;exact⟨F',aI,fun k hk=>(aZ k hk).imp id (fun h=>bX A.size h),(da.of A).andThen a6⟩
theorem nH.below(h:nH F w b s)(A:Below w.heap.size w w'):nH F w' b s:=h.aside (G:=fun _=>False) ⟨A.os,A.tape,A.output,A.size,fun k hk _=>A.block k hk⟩ (fun _ _=>id)
theorem dK.aaX{I:List dC}{hi:Nat}{vs:List Value}(h:dK td w t I lo hi vs)(av:ki w w'):dK td w' t I lo hi vs:=h.a8 (fun k cs m e _ _=>av.other k cs _ m e (by unfold oM;decide)) (fun k cs m e6 au e=>av.other k cs _ m e (by unfold oM;rcases au with rfl | rfl | rfl<;>decide))
def apB(F:Nat->Prop)(w:World)(b:Nat)(s:ni)(eH:ByteArray)(e:Ending)(w':World):Prop:=(A1 (pq (uO s.jr s.ck.bY)) eH≠0/\e=.returned (.tuple #[q 0,q (A1 (pq (uO s.jr s.ck.bY)) eH:Int)])/\vE F w b s w')\/(A1 (pq (uO s.jr s.ck.bY)) eH=0/\6<=s.nj.length/\e=.returned (.tuple #[q 0,q 7])/\vE F w b s w')\/(A1 (pq (uO s.jr s.ck.bY)) eH=0/\s.nj.length<6/\e=.returned (.tuple #[q ((s.last+1:Nat):Int),q 0])/\∃ts t x lo hi td,hC eH=some (ts,t)/\w.heap.size<=lo/\oJ td (uO s.jr s.ck.bY)/\dK td w' t [] lo hi [M x]/\vE F w b {s with nj:=s.nj++[⟨s.last+1,s.jr.count,gq ts,mM ts,x⟩],last:=s.last+1} w')
theorem avj(h:nH F w b s)(ok:hA N s.ck)(dh:Ground w)(X:s.nj.length<=100)(wx:s.last<=1000000)(eH:ByteArray):ey 7 #[M b,.string eH] w (apB F w b s eH):=by
 have b5:=dh.uJ.js;obtain⟨aw,c,b6,bt,pa,cj,lc,aX,bD,pn,pc,h1,H,ab,aK⟩:=id h;obtain⟨aE,rh,aoD,lX⟩:=h1.bd ok;obtain⟨aC,c6,bA,rfl⟩:∃aC c6 bA,aE=.slice aC c6 bA:=by obtain⟨bs,_,C,_⟩:=lX;obtain⟨a,c,e⟩:=cG C.1;exact⟨a,_,c,e⟩
 obtain rfl:pn=s.nj.length:=by obtain⟨nB,e7,e⟩:=aK.shape;injection e
 have bc:=jq rh;have aqd:=u (auR (F:=fun k=>k<w.heap.size) eH s.jr s.ck.bY b aC b6 bt pa c6 bA cj lc aX bD s.nj.length pc (s.last:Int) s.ck.dS w dh.uJ rh H.inside ab.inside lX.inside (by have:=ok.wA;omega) (fun t au=>(ok.B t au).gp));have apC:Hid (∀W,Below w.heap.size w W->nH F W b s):=u (fun W A=>h.below A);have yR:Hid (∀W,Below w.heap.size w W->(dp W b 1=some (.slice b6 cj lc)/\dp W b 2=some (.slice bt aX bD)/\dp W b 3=some (q (s.jr.count:Int))/\dp W b 4=some (.slice pa s.nj.length pc))):=u (fun W A=>by
  have k:=Below.a8 A rh;exact⟨Z k (i:=1) rfl,Z k (i:=2) rfl,Z k (i:=3) rfl,Z k (i:=4) rfl⟩)
 have aqe:Hid (∀k,F k->oN w k/\8<=k):=u aw;clear h1 H ab aK rh aoD lX;unfold aqZ at aqd;generalize atB:A1 (pq (uO s.jr s.ck.bY)) eH=apD at *;have apE:=u atB;clear atB;go_enter func7,ntmps7;go_upto_region 2 with(go_at_call 24;refine aqd.d.mono ?_;rintro e J ⟨bJ,f,sp,YB,rfl,aj⟩);have dF:Below J.heap.size J (J.alloc (.cells #[q f,q sp,.pointer YB] 61)):=cT;have fq:=bH J (.cells #[q f,q sp,.pointer YB] 61);have hK:=Below.fK bJ dF;have lm:=u aj;have qN:=u bJ;clear aj bJ aqd;generalize arD:J.alloc (.cells #[q f,q sp,.pointer YB] 61)=W at *;have JX:Hid (∀(td:List eb) (t:aL) (lo hi:Nat) (vs:List Value),dK td J t [] lo hi vs->dK td W t [] lo hi vs):=u (fun _ _ _ _ _ h=>h.below dF);have kO:=u hK;clear dF;generalize J.heap.size=aB at *
 have eo:Hid (∀aU,Below W.heap.size W aU->(dp aU aB 0=some (q f)/\dp aU aB 1=some (q sp)/\dp aU aB 2=some (.pointer YB))):=u (fun aU A=>by
  have k:=Below.a8 A fq;exact⟨Z k (i:=0) rfl,Z k (i:=1) rfl,Z k (i:=2) rfl⟩)
 by_cases Rc:apD=0
 ·by_cases aqk:6<=s.nj.length
  ·have aql:Hid (ey 25 #[.pointer (some ⟨b,4,none⟩)] W fun e w'=>e=.returned (.bool true)/\W=w'):=u (by
    have:=aqP b 4 s.nj.length pc pa W (yR.d W kO.d).2.2.2;rw[decide_eq_true aqk] at this;exact this)
   have Oq:Hid (apB F w b s eH (.returned (.tuple #[q 0,q 7])) W):=u (.inr (.inl ⟨apE.d.trans Rc,aqk,rfl,vE.same (by first | exact h) kO.d⟩));subst Rc;clear h ok dh fq hK lm qN apC yR aqe JX eo;go_wp2_with (go_at_call 25;refine aql.d.mono ?_;rintro e S ⟨rfl,rfl⟩);go_ret2;exact Oq.d
  ·have aql:Hid (ey 25 #[.pointer (some ⟨b,4,none⟩)] W fun e w'=>e=.returned (.bool false)/\W=w'):=u (by
    have:=aqP b 4 s.nj.length pc pa W (yR.d W kO.d).2.2.2;rw[decide_eq_false aqk] at this;exact this)
   obtain⟨ts,t,x,lo,hi,td,q1,bN,fR,iK,j4,km,SI,atC⟩:=lm.d Rc;subst fR iK km;have vz:Below W.heap.size W W.drew:=⟨rfl,rfl,rfl,ap,fun _ _=>rfl⟩;have lg:Hid (ey 27 #[.agg #[.slice b6 cj lc,.slice bt aX bD,q (s.jr.count:Int)]] W.drew fun e aA=>e=.returned (q (s.jr.count:Int))/\(dp aA b 1=some (.slice b6 cj lc)/\dp aA b 2=some (.slice bt aX bD)/\dp aA b 3=some (q (s.jr.count:Int))/\dp aA aB 0=some (q (gq ts:Int))/\dp aA aB 1=some (q (mM ts))/\dp aA aB 2=some (M x))/\Hid (Below W.heap.size W aA)):=u ((ank b6 bt cj lc aX bD (s.jr.count:Int) W.drew).mono (by
    rintro e aA ⟨rfl,cg⟩;have lM:=Below.fK vz cg;obtain⟨bq,a2,a3⟩:=eo.d aA lM;obtain⟨Y,am,bm,_⟩:=yR.d aA (Below.fK kO.d lM);exact⟨rfl,⟨Y,am,bm,bq,a2,a3⟩,u lM⟩))
   have apF:Hid (∀aA,Below W.heap.size W aA->ey 26 #[.pointer (some ⟨b,4,none⟩),.agg #[q (gq ts:Int),q (mM ts),M x],q (s.jr.count:Int)] aA fun e bI=>e=.returned (q ((s.last+1:Nat):Int))/\(dp bI b 1=some (.slice b6 cj lc)/\dp bI b 2=some (.slice bt aX bD)/\dp bI b 3=some (q (s.jr.count:Int))/\dp bI aB 0=some (q (gq ts:Int))/\dp bI aB 1=some (q (mM ts))/\dp bI aB 2=some (M x))/\Hid (apB F w b s eH (.returned (.tuple #[q ((s.last+1:Nat):Int),q 0])) bI)):=u (fun aA cg=>by
    have Hs:=Below.fK kO.d cg;have FS:=apC.d aA Hs;refine(auI FS (bX b5 Hs.size) X wx s.jr.count (gq ts) (mM ts) x).mono ?_;rintro e bI ⟨rfl,⟨s1,s2,dd⟩,bi⟩;have av:ki aA bI:=by obtain⟨_,_,_,a6⟩:=bi;exact ki.of a6 FS.1
    have hk:=Below.a8 cg fq;have rm:=av.other _ _ _ _ hk (by unfold oM;decide);have apG:=((JX.d _ _ _ _ _ atC).below cg).aaX av;obtain⟨Y,am,bm,_⟩:=yR.d aA Hs;exact⟨rfl,⟨s1.trans Y,s2.trans am,dd.trans bm,Z rm (i:=0) rfl,Z rm (i:=1) rfl,Z rm (i:=2) rfl⟩,u (.inr (.inr ⟨apE.d.trans Rc,r,rfl,ts,t,x,lo,hi,td,q1,j4,SI,apG,vE.later Hs bi⟩))⟩)
   obtain⟨cN,bL,fS,jg⟩:=yR.d W kO.d;obtain⟨bq,a2,a3⟩:=eo.d W (Below.refl _ _);subst Rc;clear h ok dh fq hK lm qN apC aqe JX yR eo q1 bN j4 SI atC vz;go_upto_region 6 with(go_at_call 25;refine aql.d.mono ?_;rintro e S ⟨rfl,rfl⟩);go_region_held3 (fun w'=>w'.cell? ⟨b,1,none⟩=some (.slice b6 cj lc)/\w'.cell? ⟨b,2,none⟩=some (.slice bt aX bD)/\w'.cell? ⟨b,3,none⟩=some (q (s.jr.count:Int))/\w'.cell? ⟨aB,0,none⟩=some (q (gq ts:Int))/\w'.cell? ⟨aB,1,none⟩=some (q (mM ts))/\w'.cell? ⟨aB,2,none⟩=some (M x)) (go_keep) (first | (go_at_call 26;refine(apF.d aA JU.d).mono ?_;rintro e bI ⟨rfl,⟨d4,d5,d6,d0,d1,d2⟩,JT⟩) | (go_at_call 27;refine lg.d.mono ?_;rintro e aA ⟨rfl,⟨gp,fO,jy,bk,c1,c2⟩,JU⟩));all_goals
    go_wp2_with fail;go_ret2;exact JT.d
 ·have Oq:Hid (apB F w b s eH (.returned (.tuple #[q 0,q (apD:Int)])) W):=u (.inl ⟨by rw[apE.d];exact Rc,by rw[apE.d],vE.same h kO.d⟩);have aes:((apD:Int)==0)=false:=by rw[cV];omega
  have cy:¬(apD:Int)=0:=r;obtain⟨bq,a2,a3⟩:=eo.d W (Below.refl _ _);clear h ok dh fq hK lm qN apC yR aqe JX eo;go_wp2_with fail;go_ret2;exact Oq.d
theorem fB.len{l:je}(h:fB F w (.slice a n c) l):n=l.length:=by obtain⟨rs,h1,H⟩:=h;obtain⟨nB,e7,e⟩:=cG h1.1;injection e
theorem avl(h:nH F w b s):ey 8 #[M b] w fun e w'=>e=.returned (q (s.jr.count:Int))/\Below w.heap.size w w':=by obtain⟨aw,c,b6,bt,pa,cj,lc,aX,bD,pn,pc,h1,H,ab,aK⟩:=h;obtain⟨aqW,aE,bs,g0,g1,g2,g3⟩:=h1;have c1:dp w b 1=some (.slice b6 cj lc):=g1.cell (i:=1) rfl;have c2:dp w b 2=some (.slice bt aX bD):=g1.cell (i:=2) rfl;have dZ:dp w b 3=some (q (s.jr.count:Int)):=g1.cell (i:=3) rfl;have aN:=u (ank b6 bt cj lc aX bD (s.jr.count:Int) w);clear aw H ab aK g0 g1 g2 g3;go_enter func8,ntmps8;go_wp2_with (go_at_call 27;refine aN.d.mono ?_;rintro e S ⟨rfl,bi⟩);go_ret;exact⟨rfl,bi⟩
theorem aqp(h:nH F w b s):ey 16 #[M b] w fun e w'=>e=.returned (q (s.jr.log.length:Int))/\Below w.heap.size w w':=by obtain⟨aw,c,b6,bt,pa,cj,lc,aX,bD,pn,pc,h1,H,ab,aK⟩:=h;obtain⟨aqW,aE,bs,g0,g1,g2,g3⟩:=h1;have c1:dp w b 1=some (.slice b6 cj lc):=g1.cell (i:=1) rfl;have c2:dp w b 2=some (.slice bt aX bD):=g1.cell (i:=2) rfl;have dZ:dp w b 3=some (q (s.jr.count:Int)):=g1.cell (i:=3) rfl;rw[<-H.len];have aN:=u (ap7 b6 bt cj lc aX bD (s.jr.count:Int) w);clear aw H ab aK g0 g1 g2 g3;go_enter func16,ntmps16;go_wp2_with (go_at_call 37;refine aN.d.mono ?_;rintro e S ⟨rfl,bi⟩);go_ret;exact⟨rfl,bi⟩
theorem aqq{jx:World}{c:Nat->Nat}{b6 bt pa:Option Addr}{cj lc aX bD pn pc:Nat}(b5:8<=w.heap.size)(aw:∀k,F k->oN w k/\8<=k){jr:qh}(h1:h2 (eT F c 0) jx b ⟨.slice b6 cj lc,.slice bt aX bD,q (jr.count:Int),.slice pa pn pc,q (s.last:Int)⟩ s.ck)(H:fB (db (eT F c 1) w) jx (.slice b6 cj lc) jr.log)(ab:fB (db (eT F c 1) w) jx (.slice bt aX bD) jr.ng)(aK:eg (eT F c 2) jx 103 5 (.slice pa pn pc) s.nj.length (s.nj.flatMap xi))(hs:da F w jx):vE F w b {s with jr:=jr} jx:=by
 have fH:∀i U,eT F c i U->U<w.heap.size:=fun i U ae=>by obtain⟨⟨cs,t,m,bo,_⟩,_⟩:=aw U ae.1;exact jq bo
 refine⟨fun U=>db F w U/\oN jx U,⟨fun U ae=>⟨ae.2,?_⟩,va c w 1,b6,bt,pa,cj,lc,aX,bD,pn,pc,?_,?_,?_,?_⟩,fun U ae=>?_,hs⟩
 ·rcases ae.1 with⟨_,h⟩ | h
  ·exact(aw U h).2
  ·omega
 ·refine h1.jW.move (dj.to fun U _ ae=>?_);have jz:=fH _ U ae.1;exact⟨⟨db.fH jz ae.1.1,ae.2⟩,by unfold va;rw[if_pos jz];exact ae.1.2⟩
 ·exact H.jW.move (dj.to fun U _ ae=>⟨⟨(zL ae.1).1,ae.2⟩,(zL ae.1).2⟩)
 ·exact ab.jW.move (dj.to fun U _ ae=>⟨⟨(zL ae.1).1,ae.2⟩,(zL ae.1).2⟩)
 ·refine(aK.jW (by simp[oM])).move (dj.to fun U _ ae=>?_);have jz:=fH _ U ae.1;exact⟨⟨db.fH jz ae.1.1,ae.2⟩,by unfold va;rw[if_pos jz];exact ae.1.2⟩
 ·rcases ae.1 with⟨_,h⟩ | h
  ·exact .inl h
  ·exact .inr h
def Gd(s:ni):Nat:=Ga (fun p=>PU p.since p.form p.span s.ck.dS s.jr.log) s.jr.count s.nj
def Ge(s:ni):qh:=⟨q0 (Gd s:Int) s.jr.log,q0 (Gd s:Int) s.jr.ng,s.jr.count⟩
theorem aqr(h:nH F w b s)(b5:8<=w.heap.size)(mn:s.nj.length<=100)(ZG:∀C∈s.jr.log,C.2.length=3)(kz:s.jr.log.length<=10000)(nu:s.jr.ng.length<=10000)(DV:∀p∈s.nj,-1000000000000<=p.span/\p.span<=1000000000000)(dA : -1000000000000<=s.ck.dS)(er:s.ck.dS<=1000000000000):ey 15 #[M b] w fun e w'=>(∃v,e=.returned v)/\vE F w b {s with jr:=Ge s} w':=by
 obtain⟨aw,c,b6,bt,pa,cj,lc,aX,bD,pn,pc,h1,H,ab,aK⟩:=id h;obtain⟨aqW,aE,bs,g0,g1,g2,g3⟩:=id h1;have Pz:F b/\c b=0:=g1.1.1;have eU:w.heap[b]?=some (.cells #[aE,.slice b6 cj lc,.slice bt aX bD,q (s.jr.count:Int),.slice pa pn pc,q (s.last:Int),q s.ck.dS] 72 (0,0)):=g1.2;have bc:=jq eU;have vH:Hid (∀W,Below w.heap.size w W->(dp W b 1=some (.slice b6 cj lc)/\dp W b 2=some (.slice bt aX bD)/\dp W b 3=some (q (s.jr.count:Int))/\dp W b 6=some (q s.ck.dS))/\(W.frozen? ⟨b,1,none⟩=false/\W.frozen? ⟨b,2,none⟩=false/\W.frozen? ⟨b,3,none⟩=false)):=u (fun W A=>by
  have k:=Below.a8 A eU;exact⟨⟨Z k (i:=1) rfl,Z k (i:=2) rfl,Z k (i:=3) rfl,Z k (i:=6) rfl⟩,⟨aQ (i:=1) k,aQ (i:=2) k,aQ (i:=3) k⟩⟩)
 have vz:Below w.heap.size w w.drew:=⟨rfl,rfl,rfl,ap,fun _ _=>rfl⟩
 have aqs:Hid (ey 36 #[.pointer (some ⟨b,4,none⟩),.agg #[.slice b6 cj lc,.slice bt aX bD,q (s.jr.count:Int)],q s.ck.dS] w.drew fun e J=>e=.returned (q (Gd s:Int))/\(dp J b 1=some (.slice b6 cj lc)/\dp J b 2=some (.slice bt aX bD)/\dp J b 3=some (q (s.jr.count:Int))/\dp J b 6=some (q s.ck.dS))/\(J.frozen? ⟨b,1,none⟩=false/\J.frozen? ⟨b,2,none⟩=false/\J.frozen? ⟨b,3,none⟩=false)/\Hid (Below w.heap.size w J)):=u ((ap8 (fun p=>PU p.since p.form p.span s.ck.dS s.jr.log) s.nj b 4 (.slice pa pn pc) b6 bt cj lc aX bD s.jr.count s.ck.dS w.drew (Z (Below.a8 vz eU) (i:=4) rfl) bc aK.1.drew r (fun p aj W A=>(aur p.num p.since p.form s.jr.count p.span s.ck.dS p.x _ bt aX bD s.jr.log W (H.below (Below.fK vz A)) ZG kz (DV p aj).1 (DV p aj).2 dA er))).mono (by
  rintro e J ⟨rfl,bJ⟩;have A:=Below.fK vz bJ;obtain⟨aI,aZ⟩:=vH.d J A;exact⟨rfl,aI,aZ,u A⟩))
 have apn:Hid (∀J,Below w.heap.size w J->ey 35 #[.agg #[.slice b6 cj lc,.slice bt aX bD,q (s.jr.count:Int)],q (Gd s:Int)] J fun e S=>∃a n k a2 b9 aZ,e=.returned (.agg #[.slice a n k,.slice a2 b9 aZ,q (s.jr.count:Int)])/\(dp S b 1=some (.slice b6 cj lc)/\dp S b 2=some (.slice bt aX bD)/\dp S b 3=some (q (s.jr.count:Int))/\dp S b 6=some (q s.ck.dS))/\(S.frozen? ⟨b,1,none⟩=false/\S.frozen? ⟨b,2,none⟩=false/\S.frozen? ⟨b,3,none⟩=false)/\Hid (vE F w b {s with jr:=Ge s} (((S.setCell ⟨b,1,none⟩ (.slice a n k)).setCell ⟨b,2,none⟩ (.slice a2 b9 aZ)).setCell ⟨b,3,none⟩ (q (s.jr.count:Int))))):=u (fun J bJ=>by
  refine(aun (.slice b6 cj lc) (.slice bt aX bD) (Gd s:Int) s.jr J (H.move (dj.mP bJ)) (ab.move (dj.mP bJ)) kz nu).mono ?_;rintro e S ⟨a,n,k,a2,b9,aZ,rfl,h0,gR,ah⟩;have A:=Below.fK bJ ah;obtain⟨aI,G0⟩:=vH.d S A;refine⟨a,n,k,a2,b9,aZ,rfl,aI,G0,u ?_⟩;have c7:=Below.a8 A eU;have Y:=hc (o:=1) c7 (.slice a n k);have am:=hc (o:=2) Y (.slice a2 b9 aZ);have bm:(((S.setCell ⟨b,1,none⟩ (.slice a n k)).setCell ⟨b,2,none⟩ (.slice a2 b9 aZ)).setCell ⟨b,3,none⟩ (q (s.jr.count:Int))).heap[b]?=some (.cells #[aE,.slice a n k,.slice a2 b9 aZ,q (s.jr.count:Int),.slice pa pn pc,q (s.last:Int),q s.ck.dS] 72 (0,0)):=hc (o:=3) am _
  have b3:fB (db (eT F c 1) w) _ (.slice a n k) (q0 (Gd s:Int) s.jr.log):=(((h0.wide (Xs bJ.size)).set c7 K K 1 (.slice a n k)).set Y K K 2 (.slice a2 b9 aZ)).set am K K 3 (q (s.jr.count:Int));have z2:fB (db (eT F c 1) w) _ (.slice a2 b9 aZ) (q0 (Gd s:Int) s.jr.ng):=(((gR.wide (Xs bJ.size)).set c7 K K 1 (.slice a n k)).set Y K K 2 (.slice a2 b9 aZ)).set am K K 3 (q (s.jr.count:Int));have dd:da (fun U=>U=b) w (((S.setCell ⟨b,1,none⟩ (.slice a n k)).setCell ⟨b,2,none⟩ (.slice a2 b9 aZ)).setCell ⟨b,3,none⟩ (q (s.jr.count:Int))):=(da.of A).andThen ((da.set (F:=fun U=>U=b) b 1 _ rfl).andThen ((da.set (F:=fun U=>U=b) b 2 _ rfl).andThen (da.set (F:=fun U=>U=b) b 3 _ rfl)))
  refine aqq (c:=c) (jr:=Ge s) b5 aw (h1.put (fun as6 e=>?_) (fun U ae av ar=>dd.block U ae ar)) b3 z2 (aK.move (fun U ae av=>⟨av,dd.block U ae (fun e=>?_)⟩)) (dd.mono (fun U _ e=>?_))
  ·rw[g1.2] at e;injection e with e;injection e with e _;obtain rfl:aE=as6:=bx (congrArg (fun a=>a[0]?) e);exact bm
  ·have:=av.2;rw[e,Pz.2] at this;cases this
  ·rw[e];exact Pz.1)
 obtain⟨⟨c1,c2,dZ,jy⟩,⟨f1,f2,f3⟩⟩:=vH.d w (Below.refl _ _);generalize Gd s=awn at *;clear h aw h1 H ab aK g0 g1 g2 g3 eU vz vH;go_enter func15,ntmps15;go_region_law (first
  | (go_simp;go_at_call 35;refine(apn.d J yM.d).mono ?_;rintro e S ⟨a,n,k,a2,b9,aZ,rfl,⟨p1,p2,fw,sQ⟩,⟨q1,bN,fR⟩,as9⟩)
  | (go_simp;go_at_call 36;refine aqs.d.mono ?_;rintro e J ⟨rfl,⟨m1,m2,m3,m6⟩,⟨cX,cA,hy⟩,yM⟩))
 all_goals
  go_wp2_with fail;go_end0;exact⟨⟨_,rfl⟩,as9.d⟩
theorem avm(ae:A1 td eH=0)(ag:hC eH=some (ts,t)):aJ t 2/\mr t/\3*nq t<=900/\0<=mM ts:=by
 obtain⟨ko,mW⟩:=Xn (aoC ag) (Pq ag);have ut:0<=mM ts/\pj td t=0:=by
  unfold A1 at ae;split at ae
  ·rename_i h;exact absurd ae h
  ·rw[ag] at ae;simp only[] at ae;split at ae
   ·cases ae
   ·rename_i h;exact⟨r,ae⟩
 have ou:eh td [] t=true/\h6 t=false:=by
  have ut:=ut.2;unfold pj at ut;split at ut
  ·rename_i h;refine⟨h,?_⟩;split at ut
   ·cases ut
   ·rename_i H;simpa using H
  ·cases ut
 exact⟨ko,yO t 2 [] ko ou.1 ou.2,by have lq:2*nq t<=400:=mW;omega,ut.1⟩
def Il(bd:List bG)(p:n9)(t:aL)(W:World):Prop:=(∃lo hi td j,oJ td (uO j bd)/\dK td W t [] lo hi [M p.x])/\aJ t 2/\mr t/\3*nq t<=900/\-1000000000000<=p.span/\p.span<=1000000000000
theorem Il.below{bd:List bG}{p:n9}{t:aL}{W aU:World}(h:Il bd p t W)(A:Below W.heap.size W aU):Il bd p t aU:=by obtain⟨⟨lo,hi,td,j,h1,H⟩,ab⟩:=h;exact⟨⟨lo,hi,td,j,h1,H.below A⟩,ab⟩
theorem Il.aaX{bd:List bG}{p:n9}{t:aL}{W aU:World}(h:Il bd p t W)(A:ki W aU):Il bd p t aU:=by obtain⟨⟨lo,hi,td,j,h1,H⟩,ab⟩:=h;exact⟨⟨lo,hi,td,j,h1,H.aaX A⟩,ab⟩
def PH(T:n9->aL)(g:hG)(j:qh)(p:n9):Bool:=Uq (A0 p.since p.form p.span g.dS j g.bY) g.dS (T p)
theorem avn(h1:nH F W b s)(aK:Ground W)(ok:hA N s.ck)(fit:lw s.ck)(cS:N<=1000000000)(lX:s.ck.bY=[iy])(aS:JW s.jr)(aj:s.nj.length<=100)(T:n9->aL)(bi:∀p∈s.nj,Il s.ck.bY p (T p) W)(cU eH:ByteArray)(hu:cU.size<=1000000):ey 9 #[M b,.string cU,.string eH] W (JA F W b (gE (PH T s.ck) s cU eH)):=by
 have f1:=aS.vc;have f2:=aS.log;have f3:=aS.Py;have bM : -1000000000000<=s.ck.dS:=by have:=ok.zN;omega
 refine XV (PH T s.ck) h1 ok fit aK cU eH hu r r r r (fun p AK aU b6 bt hM cj lc aX bD CM nd uf A oE kv bw avo=>?_);obtain⟨⟨lo,hi,td,atH,q1,bN⟩,fR,iK,j4,km,SI⟩:=bi p AK;have apc:=apA lX ok fit cS aS avo;have g1:=apc.vc;have g2:=apc.log;have g3:=apc.Py;exact auu (F:=fun k=>k<aU.heap.size) (td:=td) (bd:=s.ck.bY) (t:=T p) (lo:=lo) (hi:=hi) p.num p.since p.form p.span s.ck.dS p.x b6 bt hM cj lc aX bD CM nd uf aU oE kv (fun C ag=>(apc.cX C ag).1) r r km SI (by rw[lX];show 1<=900;omega) bw (fun h5 v ah nN=>⟨fun k=>k<h5.heap.size,auw (fit.B ok) apc _ _ _ _,q1,bM,ok.ya,fR,iK,j4,((aK.below A).below ah).vC.lt,((aK.below A).below ah).vC,(bN.below A).below ah,nN.inside,fun k hk=>hk⟩) bM ok.ya
theorem aqt(h:gF w b s W)(ok:hA N s.ck)(fit:lw s.ck)(cS:N<=1000000000)(lX:s.ck.bY=[iy])(aS:JW s.jr)(aj:s.nj.length<=100)(T:n9->aL)(bi:∀p∈s.nj,Il s.ck.bY p (T p) W)(cU eH:ByteArray)(hu:cU.size<=1000000):ey 9 #[M b,.string cU,.string eH] W fun e aU=>∃a n c,e=.returned (.tuple #[.agg #[.slice a n c,q ((gE (PH T s.ck) s cU eH).Jt:Int)],q ((gE (PH T s.ck) s cU eH).qk:Int)])/\Hid (fW 0 aU (.slice a n c) (gE (PH T s.ck) s cU eH).out/\gF w b (gE (PH T s.ck) s cU eH).FX aU/\ki W aU):=by obtain⟨⟨F,h1,H⟩,ab,aK⟩:=h;refine(avn h1 aK ok fit cS lX aS aj T bi cU eH hu).mono ?_;rintro e aU ⟨a,n,c,rfl,ct,bi⟩;exact⟨a,n,c,rfl,u ⟨ct,gF.call h1.1 H ab aK bi⟩⟩
theorem avp(h1:nH F W b s)(aK:Ground W)(ok:hA N s.ck)(X:s.nj.length<6)(wx:s.last<=1000000)(eH:ByteArray)(aj:A1 (pq (uO s.jr s.ck.bY)) eH=0):ey 7 #[M b,.string eH] W fun e aU=>e=.returned (.tuple #[q ((s.last+1:Nat):Int),q 0])/\∃ts t x,hC eH=some (ts,t)/\(mM ts<=1000000000000->Il s.ck.bY ⟨s.last+1,s.jr.count,gq ts,mM ts,x⟩ t aU)/\vE F W b {s with nj:=s.nj++[⟨s.last+1,s.jr.count,gq ts,mM ts,x⟩],last:=s.last+1} aU:=by
 refine(avj h1 ok aK r wx eH).mono ?_;rintro e aU (⟨cy,-⟩ | ⟨-,cE,-⟩ | ⟨-,-,rfl,ts,t,x,lo,hi,td,q1,bN,fR,iK,j4⟩)
 ·exact absurd aj cy
 ·omega
 ·obtain⟨p1,p2,fw,pf⟩:=avm aj q1;exact⟨rfl,ts,t,x,q1,fun hs=>⟨⟨lo,hi,td,s.jr,fR,iK⟩,p1,p2,fw,by show(-1000000000000:Int)<=mM ts;omega,hs⟩,j4⟩
theorem aqu(h:gF w b s W)(ok:hA N s.ck)(X:s.nj.length<6)(wx:s.last<=1000000)(eH:ByteArray)(aj:A1 (pq (uO s.jr s.ck.bY)) eH=0):ey 7 #[M b,.string eH] W fun e aU=>e=.returned (.tuple #[q ((s.last+1:Nat):Int),q 0])/\Hid (∃ts t x,hC eH=some (ts,t)/\(mM ts<=1000000000000->Il s.ck.bY ⟨s.last+1,s.jr.count,gq ts,mM ts,x⟩ t aU)/\gF w b {s with nj:=s.nj++[⟨s.last+1,s.jr.count,gq ts,mM ts,x⟩],last:=s.last+1} aU/\ki W aU):=by obtain⟨⟨F,h1,H⟩,ab,aK⟩:=h;refine(avp h1 aK ok X wx eH aj).mono ?_;rintro e aU ⟨rfl,ts,t,x,q1,bN,fR⟩;obtain⟨aI,aZ⟩:=gF.call h1.1 H ab aK fR;exact⟨rfl,u ⟨ts,t,x,q1,bN,aI,aZ⟩⟩
theorem aqw(h:gF w b s W):ey 8 #[M b] W fun e aU=>e=.returned (q (s.jr.count:Int))/\Hid (Below W.heap.size W aU):=by obtain⟨⟨F,h1,H⟩,ab,aK⟩:=h;exact(avl h1).mono (fun e aU h=>⟨h.1,u h.2⟩)
theorem aqY(h:gF w b s W):ey 16 #[M b] W fun e aU=>e=.returned (q (s.jr.log.length:Int))/\Hid (Below W.heap.size W aU):=by obtain⟨⟨F,h1,H⟩,ab,aK⟩:=h;exact(aqp h1).mono (fun e aU h=>⟨h.1,u h.2⟩)
theorem aq1(h:gF w b s W)(t:Int):ey 14 #[M b,q t] W fun e aU=>e=.returned (q (C5 s.ck t).1)/\Hid (gF w b {s with ck:=(C5 s.ck t).2} aU/\ki W aU):=by obtain⟨⟨F,h1,H⟩,ab,aK⟩:=h;refine(ap9 h1 aK.uJ.js t).mono ?_;rintro e aU ⟨rfl,bi⟩;exact⟨rfl,u (gF.call h1.1 H ab aK bi)⟩
theorem aq2(h:gF w b s W)(ok:hA N s.ck)(aS:JW s.jr)(aj:s.nj.length<=100)(DV:∀p∈s.nj,-1000000000000<=p.span/\p.span<=1000000000000):ey 15 #[M b] W fun e aU=>(∃v,e=.returned v)/\Hid (gF w b {s with jr:=Ge s} aU/\ki W aU):=by
 obtain⟨⟨F,h1,H⟩,ab,aK⟩:=h;have f1:=aS.vc;have f2:=aS.log;have f3:=aS.Py;have bM : -1000000000000<=s.ck.dS:=by have:=ok.zN;omega
 refine(aqr h1 aK.uJ.js aj (fun C ag=>(aS.cX C ag).1) r r DV bM ok.ya).mono ?_;rintro e aU ⟨hv,bi⟩;exact⟨hv,u (gF.call h1.1 H ab aK bi)⟩
theorem YL:hA 5 (⟨[⟨fL,mA,[],0⟩],0⟩:hG):=by have:=(hA.zero 5).create fL F8;rw[PE] at this;exact this
theorem Gc:hA 6 (⟨r9,0⟩:hG)/\lw (⟨r9,0⟩:hG):=by have h1:=YL.insert fL [⟨#[55]⟩,⟨#[39,113,39]⟩];have H:=(lw.zero.create fL F8).insert fL [⟨#[55]⟩,⟨#[39,113,39]⟩];rw[PE] at H;rw[Yb] at h1 H;exact⟨h1,H⟩
theorem YM:hA 6 (⟨vI,0⟩:hG)/\lw (⟨vI,0⟩:hG):=by have h1:=Gc.1.delete fL 1;have H:=Gc.2.delete fL 1;have e:pz (⟨r9,0⟩:hG) fL 1=(0,⟨vI,0⟩):=Yc;rw[e] at h1 H;exact⟨h1,H⟩
theorem YN{g:Nat}{x y:ByteArray}(h:w.heap[g]?=some (.cells #[.string x,.string y] 9 (0,0))):zG w g [x,y]:=fun i hi=>by
 have H:i=0\/i=1:=by simp at hi;omega
 rcases H with rfl | rfl
 ·exact Z h (i:=0) rfl
 ·exact Z h (i:=1) rfl
theorem YO(cD:List (Int×Int))(uN:Value)(w:World)(dh:Ground w)(hit:CY w uN cD):ey 6 #[uN] w fun e w'=>∃b,e=.returned (M b)/\gF w b (mB cD (min cD.length 12)) w':=by
 obtain⟨⟨a,af,rfl,hit⟩,b7,k7⟩:=hit;have aqf:=u hit;have AB:=u k7;have YP:=u (ao8 w dh);have YQ:Hid (∀W b,gF w b Js W->ey 19 #[M b,.string ⟨#[116]⟩,.string ⟨#[120,58,105,44,121,58,116]⟩] W fun e aU=>e=.returned (q 0)/\Hid (gF w b ⟨⟨[⟨fL,mA,[],0⟩],0⟩,⟨[],[],0⟩,[],0⟩ aU)):=u (fun W b h=>by
  have:=ao6 h (hA.zero 5) fL F8 K K;refine this.mono ?_;rintro e aU ⟨rfl,hk⟩;have gi:=hk.out.1;have c7:lL Js.ck fL F8=(0,⟨[⟨fL,mA,[],0⟩],0⟩):=PE;rw[c7] at gi ⊢;exact⟨rfl,u gi⟩)
 have YR:Hid (∀W b,gF w b ⟨⟨[⟨fL,mA,[],0⟩],0⟩,⟨[],[],0⟩,[],0⟩ W->ey 20 #[M b,.string ⟨#[116]⟩,.slice (some ⟨W.heap.size,0,none⟩) 2 2] (W.alloc (.cells #[.string ⟨#[55]⟩,.string ⟨#[39,113,39]⟩] 9)) fun e aU=>e=.returned (.tuple #[q 1,q 0])/\Hid (gF w b JI aU)):=u (fun W b h=>by
  have dF:=(Below.refl W.heap.size W).alloc ap (.cells #[.string ⟨#[55]⟩,.string ⟨#[39,113,39]⟩] 9);have qy:=bH W (.cells #[.string ⟨#[55]⟩,.string ⟨#[39,113,39]⟩] 9);have:=Yh (h.below dF) YL K fL W.heap.size 2 [⟨#[55]⟩,⟨#[39,113,39]⟩] (YN qy) (jq qy) K K;refine this.mono ?_;rintro e aU ⟨rfl,hk⟩;have gi:=hk.out.1;have c7:mF ⟨[⟨fL,mA,[],0⟩],0⟩ fL [⟨#[55]⟩,⟨#[39,113,39]⟩]=(1,0,⟨r9,0⟩):=Yb;rw[c7] at gi ⊢;exact⟨rfl,u gi⟩)
 have C3:Hid (∀W b,gF w b JI W->ey 9 #[M b,.string ⟨#[117]⟩,.string ⟨#[115,101,108,101,99,116,32,97,46,120,44,32,97,46,121,32,102,114,111,109,32,116,32,97]⟩] W fun e aU=>∃dc de,e=.returned (.tuple #[.agg #[.slice dc 1 de,q 0],q 0])/\Hid (fW 0 aU (.slice dc 1 de) JH/\gF w b ⟨⟨r9,0⟩,nh hS 0 [(fL,1)] ⟨[],[],0⟩,[],0⟩ aU)):=u (fun W b h=>by
  refine(Yi h Gc.1 Gc.2 hS CU K K K K rfl).mono ?_;rintro e aU ⟨dc,on,de,rfl,hk⟩;obtain⟨ct,bZ,_⟩:=hk.out;rw[ao4] at ct bZ ⊢;have PR:on=1:=by obtain⟨bE,C,am,_⟩:=id ct;obtain⟨nB,e7,Y⟩:=cG C;injection Y with _ Y _;rw[Y,am];rfl
  subst PR;exact⟨dc,de,rfl,u ⟨ct,bZ⟩⟩)
 have C1:Hid (∀W b,gF w b ⟨⟨r9,0⟩,nh hS 0 [(fL,1)] ⟨[],[],0⟩,[],0⟩ W->ey 21 #[M b,.string ⟨#[116]⟩,q 1] W fun e aU=>e=.returned (q 0)/\Hid (gF w b JJ aU/\ki W aU)):=u (fun W b h=>by
  refine(ao7 h Gc.1 fL 1).mono ?_;rintro e aU ⟨rfl,hk⟩;have gi:=hk.out;have c7:pz (⟨r9,0⟩:hG) fL 1=(0,⟨vI,0⟩):=Yc;rw[c7] at gi ⊢;exact⟨rfl,u gi⟩)
 have vD:Hid (∀W b,gF w b JJ W->ey 9 #[M b,.string ⟨#[117]⟩,.string ⟨#[115,101,108,101,99,116,32,97,46,120,32,102,114,111,109,32,116,32,97]⟩] W fun e aU=>∃dc de,e=.returned (.tuple #[.agg #[.slice dc 0 de,q 0],q 0])/\Hid (gF w b AT aU/\ki W aU)):=u (fun W b h=>by
  refine(Yi h YM.1 YM.2 hS CV K K K K rfl).mono ?_;rintro e aU ⟨dc,on,de,rfl,hk⟩;obtain⟨ct,bZ⟩:=hk.out;rw[ao5] at ct bZ ⊢;have PR:on=0:=by obtain⟨bE,C,am,_⟩:=id ct;obtain⟨nB,e7,Y⟩:=cG C;injection Y with _ Y _;rw[Y,am];rfl
  subst PR;exact⟨dc,de,rfl,u bZ⟩)
 clear dh hit k7;go_enter func6,ntmps6;go_upto_region 7 with(first
  | (go_at_call 9;refine(C3.out aA b l2.out).mono ?_;rintro e bI ⟨dc,de,rfl,l9⟩)
  | (go_at_call 20;refine(YR.out S b iH.out).mono ?_;rintro e aA ⟨rfl,l2⟩)
  | (go_at_call 19;refine(YQ.out J b H1.out).mono ?_;rintro e S ⟨rfl,iH⟩)
  | (go_at_call 18;refine YP.out.mono ?_;rintro e J ⟨b,rfl,H1⟩))
 go_upto_region 9 with(first
  | (go_at_call 9;refine(vD.out bh b rq.out.1).mono ?_;rintro e cw ⟨rl,vL,rfl,p6⟩)
  | (go_at_call 21;refine(C1.out _ b (l9.out.2.below cT)).mono ?_;rintro e bh ⟨rfl,rq⟩))
 have PS:Hid (gF w b AT (cw.alloc (.cells #[.slice rl 0 vL,q 0] 32))):=u (p6.out.1.below cT);obtain⟨g,aC,bA,ib,rfl,rfl,d0,d1,d2,d3,d4⟩:∃g aC bA ib,dc=some ⟨g,0,none⟩/\aC=some ⟨ib,0,none⟩/\(cw.alloc (.cells #[.slice rl 0 vL,q 0] 32)).cell? ⟨bI.heap.size,0,none⟩=some (.slice dc 1 de)/\(cw.alloc (.cells #[.slice rl 0 vL,q 0] 32)).cell? ⟨g,0,none⟩=some (.slice aC 2 bA)/\(cw.alloc (.cells #[.slice rl 0 vL,q 0] 32)).cell? ⟨ib,0,none⟩=some (.string ⟨#[55]⟩)/\(cw.alloc (.cells #[.slice rl 0 vL,q 0] 32)).cell? ⟨ib,1,none⟩=some (.string ⟨#[39,113,39]⟩)/\(cw.alloc (.cells #[.slice rl 0 vL,q 0] 32)).cell? ⟨cw.heap.size,0,none⟩=some (.slice rl 0 vL):=by
  have av:ki (bI.alloc (.cells #[.slice dc 1 de,q 0] 32)) (cw.alloc (.cells #[.slice rl 0 vL,q 0] 32)):=(rq.out.2.trans p6.out.2).trans (ki.below cT);have fA:=av.other _ _ _ _ (bH bI _) (F9 (.inr (.inr (.inr rfl))));have ct:=av.out (l9.out.1.below ((Below.refl _ _).alloc ap (.cells #[.slice dc 1 de,q 0] 32)));obtain⟨bE,C,am,k⟩:=ct;have kz:bE.length=1:=am;have lK:(cw.alloc (.cells #[.slice rl 0 vL,q 0] 32)).ownsRow 0 55 2 (.slice dc bE.length de) bE.length (bE.flatMap CH):=by rw[kz] at C ⊢;exact C
  obtain⟨g,eX,R,bk,c1⟩:=Ps lK 0 r;obtain⟨aI,_⟩:=k 0 r (by show 0<1;omega);obtain⟨aC,bA,Y⟩:=cG aI;rw[Y] at bk aI;obtain⟨ib,ev,_,nc⟩:=PF (l:=[⟨#[55]⟩,⟨#[39,113,39]⟩]) aI 0 (by show 0<2;omega);obtain⟨atD,C4,_,s1⟩:=PF (l:=[⟨#[55]⟩,⟨#[39,113,39]⟩]) aI 1 (by show 1<2;omega);rw[ev] at C4;injection C4 with C4;injection C4 with C4;subst C4;exact⟨g,aC,bA,ib,eX,ev,Z fA (i:=0) rfl,bk,nc,s1,Z (bH cw _) (i:=0) rfl⟩
 generalize cw.alloc (.cells #[.slice rl 0 vL,q 0] 32)=YS at *;clear YP YQ YR C3 C1 vD H1 iH l2 l9 rq p6;go_upto_region 12 with fail;clear d0 d1 d2 d3 d4;have H4:Hid (gF w b (mB cD 0) YS):=u PS.out;have kO:Hid (Below w.heap.size w YS):=u PS.out.ho;clear PS;go_loopg [5,6,12] 13 (fun U Ya kr gr wr=>∃k:Nat,gr=q (k:Int)/\k<=cD.length/\k<=12/\Hid (gF w b (mB cD k) wr)/\12-k<U);case atStart=>exact⟨0,rfl,bu,bu,H4,r⟩
 case round=>
  obtain⟨k,rfl,bZ,dR,e1,ae⟩:=hrel;by_cases jl:k<cD.length
  ·by_cases I4:k<12
   ·have JR:(k:Int)<(cD.length:Int):=r;have atE:(k:Int)<12:=r;obtain⟨g2,off,rfl,bC,iV⟩:∃g off,a=some ⟨g,off,none⟩/\g<w.heap.size/\∀i (h:i<cD.length),dp w g (off+i*2)=some (q cD[i].1)/\dp w g (off+i*2+1)=some (q cD[i].2):=by
     rcases aqf.out with h | h
     ·rw[h] at jl;exact absurd jl (fp _)
     ·exact h
    obtain⟨bz,cz,fP,mq⟩:=AB.out _ (ec jl);have ko:cD.getD k (0,0)=cD[k]:=by rw[List.getD_eq_getElem?_getD,fC jl];rfl
    have PT:Hid (mF (uM cD k) fL [nk cD[k].1,nl cD[k].2]=(k+2,0,uM cD (k+1))):=u (by have:=Ym cD k I4;rw[ko] at this;exact this);have uu:Hid (∀W,Below w.heap.size w W->dp W g2 (off+k*2)=some (q cD[k].1)/\dp W g2 (off+k*2+1)=some (q cD[k].2)):=u (fun W A=>⟨(A.cell (p:=⟨g2,off+k*2,none⟩) bC).trans (iV k jl).1,(A.cell (p:=⟨g2,off+k*2+1,none⟩) bC).trans (iV k jl).2⟩);have q9:IntKind.i64.wrap ((k:Int)+2)=(k:Int)+2:=mC;have q8:IntKind.i64.wrap ((k:Int)+1)=(k:Int)+1:=mC;clear iV ko;generalize cD[k]=aqg at *;obtain⟨q2,q3⟩:=aqg;simp only[] at bz cz fP mq PT uu;have vz:Below wr.heap.size wr wr.drew:=⟨rfl,rfl,rfl,ap,fun _ _=>rfl⟩
    have aqh:Hid (ey 22 #[q q2] wr.drew fun e J=>e=.returned (.string (nk q2))/\(dp J g2 (off+k*2)=some (q q2)/\dp J g2 (off+k*2+1)=some (q q3))/\Hid (gF w b (mB cD k) J)):=u ((aoP q2 wr.drew bz cz).mono (by
     rintro e J ⟨rfl,A⟩;have h1:=(e1.out.below vz).below A;exact⟨rfl,uu.out J h1.ho,u h1⟩))
    have aqi:Hid (∀W,gF w b (mB cD k) W->ey 23 #[q q3] W fun e S=>e=.returned (.string (nl q3))/\(dp S g2 (off+k*2)=some (q q2)/\dp S g2 (off+k*2+1)=some (q q3))/\Hid (gF w b (mB cD k) S)):=u (fun W h=>(aoQ q3 W fP mq).mono (by
     rintro e S ⟨rfl,A⟩;have h1:=h.below A;exact⟨rfl,uu.out S h1.ho,u h1⟩))
    have aqj:Hid (∀W,gF w b (mB cD k) W->ey 20 #[M b,.string ⟨#[116]⟩,.slice (some ⟨W.heap.size,0,none⟩) 2 2] (W.alloc (.cells #[.string (nk q2),.string (nl q3)] 9)) fun e aA=>e=.returned (.tuple #[q ((k:Int)+2),q 0])/\(dp aA g2 (off+k*2)=some (q q2)/\dp aA g2 (off+k*2+1)=some (q q3))/\Hid (gF w b (mB cD (k+1)) aA)):=u (fun W h=>by
     have dF:=(Below.refl W.heap.size W).alloc ap (.cells #[.string (nk q2),.string (nl q3)] 9);have qy:=bH W (.cells #[.string (nk q2),.string (nl q3)] 9);have:=Yh (h.below dF) (PG cD k dR).1 r fL W.heap.size 2 [nk q2,nl q3] (YN qy) (jq qy) (by show 2<=2000000;omega) (fun t au=>by
      have q1:=(Yj q2).2.2;have bN:=(Yk q3).2.2;rcases List.mem_cons.1 au with rfl | au
      ·omega
      ·obtain rfl:=ic au;omega)
     refine this.mono ?_;rintro e aA ⟨rfl,hk⟩;have gi:=hk.out.1;have c7:mF (mB cD k).ck fL [nk q2,nl q3]=(k+2,0,uM cD (k+1)):=PT.out;rw[c7] at gi ⊢;have YT:gF w b (mB cD (k+1)) aA:=gi;exact⟨rfl,uu.out aA YT.ho,u YT⟩)
    obtain⟨nc,s1⟩:=uu.out wr e1.out.ho;generalize nk q2=atF at *;generalize nl q3=atG at *;have ch:=u ae;clear ae bz cz fP mq PT vz bC uu;go_upto_region 14 with fail;go_region_held3 (fun w'=>w'.cell? ⟨g2,off+k*2,none⟩=some (q q2)/\w'.cell? ⟨g2,off+k*2+1,none⟩=some (q q3)) (go_keep) (first
     | (go_at_call 20;refine(aqj.out S kh.out).mono ?_;rintro e aA ⟨rfl,⟨bk,c1⟩,oO⟩)
     | (go_at_call 23;refine(aqi.out J jd.out).mono ?_;rintro e S ⟨rfl,⟨hr,cN⟩,kh⟩)
     | (go_at_call 22;refine aqh.out.mono ?_;rintro e J ⟨rfl,⟨a0,bq⟩,jd⟩))
    all_goals
     clear nc s1 a0 bq hr cN bk c1;go_wp2_with fail;have ae:=ch.out;go_roundg (gk-1);case measure=>omega
     case rel=>exact⟨k+1,by go_num,r,r,oO,r⟩
   ·have vq:k=12:=r;subst vq;have JR:((12:Nat):Int)<(cD.length:Int):=r;have bK:Hid (min cD.length 12=12):=u r;clear ae;go_wp2_with fail;go_ret;exact⟨b,rfl,by rw[bK.out];exact e1.out⟩
  ·have vq:k=cD.length:=r;have JR:(cD.length:Int)<=(k:Int):=r;have bK:Hid (min cD.length 12=k):=u r;clear ae vq;go_wp2_with fail;go_ret;exact⟨b,rfl,by rw[bK.out];exact e1.out⟩
theorem atI(bd:List bG):oJ (pq bd) bd:=by unfold oJ pq;rw[List.map_map];rfl
theorem avr(s:ByteArray)(fe:List Nat):kq s fe<=2:=by
 unfold kq;split
 ·decide
 ·split
  ·split<;>decide
  ·decide
theorem avs(td:List eb)(s:ByteArray):hN td s<=5:=by
 unfold hN;split
 ·exact bX (avr s [0]) K
 ·split
  ·decide
  ·unfold pj;split
   ·split
    ·decide
    ·split<;>decide
   ·decide
structure gQ (w:World) (cN:Nat) (s1:ni) (bL:Nat) (s2:ni) (W:World):Prop where
 own:∃UM UN,nH UM W cN s1/\nH UN W bL s2/\(∀k,UM k->¬UN k)/\(∀k,UM k->w.heap.size<=k)/\∀k,UN k->w.heap.size<=k
 ho:Below w.heap.size w W
 xo:Ground W
theorem AY(g:az->List (je)->az×List (je))(p:je->Bool)(R:∀st aP,st.dE=false->g st aP=(st,if p st.ad then aP++[st.ad] else aP)):∀(l:je) (st:az) (aP:List (je)),st.ad=[]->st.dE=false->oz g l st aP=(st,aP++(l.filter fun C=>p [C]).map fun C=>[C])
 | [],st,aP,_,_=>by simp[oz]
 | C::l,st,aP,aw,h1=>by
  obtain⟨ad,bF,eP,dE⟩:=st;simp only at aw h1;subst aw h1;rw[oz,R _ _ rfl];simp only[List.nil_append,List.length_singleton,Nat.sub_self,List.take_zero];rw[AY g p R l ⟨[],bF,eP,false⟩ _ rfl rfl];by_cases aj:p [C]=true
  ·simp[aj]
  ·simp[aj]
theorem AZ(a8:az->Bool×az)(ba:az->List al×az)(f:je->List al)(Cu:∀s,a8 s=(true,s))(hv:∀s,ba s=(f s.ad,s)):∀(l:je) (aP:List (List al×List (je))) (st:az),st.ad=[]->st.dE=false->(k8 a8 ba (l.map fun C=>[[C]]) aP st).1=aP++l.map (fun C=>(f [C],[[C]]))/\(k8 a8 ba (l.map fun C=>[[C]]) aP st).2.dE=false
 | [],aP,st,_,h1=>by simp[k8,h1]
 | C::l,aP,st,aw,h1=>by
  obtain⟨ad,bF,eP,dE⟩:=st;simp only at aw h1;subst aw h1;rw[List.map_cons,k8];simp only[Bool.false_eq_true,if_false];have e:mp a8 ba [[C]] ⟨[],bF,eP,false⟩=([(f [C],[[C]])],⟨[],[[C]],eP,false⟩):=by unfold mp;simp[Cu,hv]
  rw[e];have aH:=AZ a8 ba f Cu hv l (aP++[(f [C],[[C]])]) ⟨[],[[C]],eP,false⟩ rfl rfl;rw[aH.1];exact⟨by simp,aH.2⟩
theorem H9{O:Int}{e:aL}{s:ByteArray×ByteArray}(ak:dJ e=false)(p:je->Bool)(hk:∀st,iZ (bR B O wh (ea B [s])) wh st=(p st.ad,st))(f:je->List al)(hv:∀st,hL (ea B [s]) O e st=(f st.ad,st))(ar:(gC B s).length<=20000):(bR B O (.query e [s] wh .nil .nil) [] nG).2.1=((gC B s).filter fun C=>p [C]).map (fun C=>(f [C],[[C]]))/\(bR B O (.query e [s] wh .nil .nil) [] nG).2.2.dE=false:=by
 have ai:fY B [s]=(gC B s).length:=by simp[fY]
 have PN:iJ B [s] (iZ (bR B O wh (ea B [s])) wh) nG=(mQ (gC B s).length nG,((gC B s).filter fun C=>p [C]).map fun C=>[C]):=by
  unfold iJ;rw[ai];split
  ·rename_i aw;rw[ma aw];rfl
  ·have av:(mQ (gC B s).length nG).dE=false:=by simp[mQ,nG];omega
   rw[hB,if_neg (by rw[av];decide)];rw[AY _ p (fun st aP h=>by rw[hB,if_neg (by rw[h];decide),hk];rfl) _ _ _ rfl av,List.nil_append]
 have av:(mQ (gC B s).length nG).dE=false:=by simp[mQ,nG];omega
 have Cu:∀st,iZ (bR B O .nil (ea B [s])) .nil st=(true,st):=fun st=>rfl;have h:=AZ _ _ f Cu hv ((gC B s).filter fun C=>p [C]) [] (mQ (gC B s).length nG) rfl av;have R:mR e .nil .nil (hL (ea B [s]) O .nil) (mQ (gC B s).length nG,((gC B s).filter fun C=>p [C]).map fun C=>[C])=(((gC B s).filter fun C=>p [C]).map fun C=>[[C]],mQ (gC B s).length nG):=by unfold mR wD;rw[ak];simp[isNone]
 rw[bR];simp only[List.nil_append];rw[PN,R];rw[List.nil_append] at h;exact h
def G2:ByteArray:=⟨#[113]⟩
def PI:ByteArray:=⟨#[108,111,103]⟩
theorem atL(L ox:je)(bd:List bG):gC ([Al L,Am ox]++bd) (PI,G2)=L:=by
 have:fD ([Al L,Am ox]++bd) PI=some 0:=by unfold fD;rw[List.cons_append,List.findIdx?_cons];rfl
 unfold gC;rw[show(PI,G2).1=PI from rfl,this];rfl
def um:ByteArray:=⟨#[97]⟩
def xp:ByteArray:=⟨#[120]⟩
def vJ:aL:=.node 1 um xp al.zero .nil .nil
def PO:aL:=.cons vJ .nil
theorem adZ:t2=.query PO [(fL,um)] .nil .nil .nil:=ax
theorem Cb(st:az):BP [⟨um,mA⟩] st um xp=((st.ad.getD 0 (0,[])).2).getD 0 al.zero:=by have:L0 [⟨um,mA⟩] um xp=some (0,0,1):=ax;unfold BP;rw[this]
theorem ad1(O:Int)(st:az):hL [⟨um,mA⟩] O PO st=([((st.ad.getD 0 (0,[])).2).getD 0 al.zero],st):=by simp only[PO,vJ,hL,ca,if_true];rw[Cb]
theorem YV{O:Int}{cm:je}(p:je->Bool)(b1:gC B (fL,um)=cm)(eU:ea B [(fL,um)]=[⟨um,mA⟩])(hk:∀st,iZ (bR B O wh [⟨um,mA⟩]) wh st=(p st.ad,st))(ar:cm.length<=20000):oK B O [(fL,um)] (.query PO [(fL,um)] wh .nil .nil)=some ((kM pg ((cm.filter fun C=>p [C]).map fun C=>([C.2.getD 0 al.zero],[(fL,(C.1:Int))]))).map nF):=by
 have h:=H9 (B:=B) (O:=O) (e:=PO) (wh:=wh) (s:=(fL,um)) rfl p (by rw[eU];exact hk) (fun l=>[((l.getD 0 (0,[])).2).getD 0 al.zero]) (by rw[eU];exact ad1 O) (by rw[b1];exact ar);rw[b1] at h;unfold oK;rw[h.2,h.1,if_neg K,List.map_map];congr 3;apply List.map_congr_left;intro C _;show lG [(fL,um)] ([C.2.getD 0 al.zero],[[C]])=_;unfold lG;rw[show iO [(fL,um)] [[C]] [(fL,um)].length=[(fL,(C.1:Int))] from rfl,Yf]
theorem anr(cm:je)(k:Nat):hN (pq [⟨fL,mA,cm,k⟩]) CV=0:=ax
theorem aq3{s:ByteArray×ByteArray}(F:az->Int×List (List al×List (je))×az)(ar:(gC B s).length<=20000):iJ B [s] (iZ F .nil) nG=(mQ (gC B s).length nG,(gC B s).map fun C=>[C]):=by
 have ai:fY B [s]=(gC B s).length:=by simp[fY]
 unfold iJ;rw[ai];split
 ·rename_i aw;rw[ma aw];rfl
 ·have av:(mQ (gC B s).length nG).dE=false:=by simp[mQ,nG];omega
  rw[hB,if_neg (by rw[av];decide)];rw[AY _ (fun _=>true) (fun st aP h=>by rw[hB,if_neg (by rw[h];decide)];rfl) _ _ _ rfl av,List.nil_append,List.filter_eq_self.2 (fun _ _=>rfl)]
def VN:aL:=.node 7 ⟨#[]⟩ ⟨#[]⟩ al.zero .nil .nil
def ajZ(k:Nat):aL:=.node 2 ⟨#[]⟩ ⟨#[]⟩ ⟨1,(k:Int),[]⟩ .nil .nil
def PX(k:Nat):aL:=.node 18 ⟨#[]⟩ ⟨#[]⟩ al.zero (.cons VN (.cons (ajZ k) .nil)) .nil
def AX(k:Nat):aL:=.query (.cons VN .nil) [(PI,G2)] .nil .nil (PX k)
def SJ(n k:Nat):ByteArray:=a7 ([119,105,116,104,105,110,32]++(im (n:Int)).data.toList++[32,115,101,108,101,99,116,32,99,111,117,110,116,40,42,41,32,102,114,111,109,32,108,111,103,32,113,32,104,97,118,105,110,103,32,99,111,117,110,116,40,42,41,32,62,32]++(im (k:Int)).data.toList)
theorem aq4(B:List bG)(O:Int)(I:List eO)(k:Nat)(st:az):iZ (bR B O (PX k) I) (PX k) st=(decide (k<st.bF.length),st):=by
 simp only[iZ,PX,ajZ,VN,isNone,bR,ca];simp only[Nat.reduceEqDiff,if_false,if_true,Bool.false_eq_true];have:decide (pP 18 (iX (st.bF.length:Int)) ⟨1,(k:Int),[]⟩=2)=decide (k<st.bF.length):=by
  have ai:jo (iX (st.bF.length:Int)) ⟨1,(k:Int),[]⟩=pO (st.bF.length:Int) (k:Int):=apH _ _;unfold pP;rw[if_neg (by rintro(h | h)<;>cases h),if_neg K,if_neg K,ai];unfold pO rC;by_cases h1:(st.bF.length:Int)<(k:Int)
  ·rw[if_pos h1];simp;omega
  ·rw[if_neg h1];by_cases H:(st.bF.length:Int) > (k:Int)
   ·rw[if_pos H];simp;omega
   ·rw[if_neg H];simp;omega
 rw[this]
theorem aq5(L ox:je)(bd:List bG)(O:Int)(k:Nat)(X:L.length<=20000):Uq ([Al L,Am ox]++bd) O (AX k)=decide (k<L.length):=by
 have b1:=atL L ox bd;have aka:=aq3 (B:=[Al L,Am ox]++bd) (s:=(PI,G2)) (bR ([Al L,Am ox]++bd) O .nil (ea ([Al L,Am ox]++bd) [(PI,G2)])) (by rw[b1];exact X);rw[b1] at aka;have av:(mQ L.length nG).dE=false:=by simp[mQ,nG];omega
 have R:mR (.cons VN .nil) .nil (PX k) (hL (ea ([Al L,Am ox]++bd) [(PI,G2)]) O .nil) (mQ L.length nG,L.map fun C=>[C])=([L.map fun C=>[C]],mQ L.length nG):=by unfold mR;rw[if_pos (by rfl),if_pos (by rfl)]
 have AN:(bR ([Al L,Am ox]++bd) O (AX k) [] nG).2=k8 (iZ (bR ([Al L,Am ox]++bd) O (PX k) (ea ([Al L,Am ox]++bd) [(PI,G2)])) (PX k)) (hL (ea ([Al L,Am ox]++bd) [(PI,G2)]) O (.cons VN .nil)) [L.map fun C=>[C]] [] (mQ L.length nG):=by unfold AX;rw[bR];simp only[List.nil_append];rw[aka,R]
 unfold Uq;rw[AN,k8,if_neg (by rw[av];decide)];unfold mp;simp only[aq4];by_cases hk:k<L.length
 ·have:decide (k<(L.map fun C=>[C]).length)=true:=decide_eq_true (by rw[cZ];exact hk);rw[decide_eq_true hk];simp only[this,if_true,k8];rfl
 ·have:decide (k<(L.map fun C=>[C]).length)=false:=decide_eq_false (by rw[cZ];exact hk);rw[decide_eq_false hk];simp only[this,Bool.false_eq_true,if_false,k8];show(!([]:List (List al×List (je))).isEmpty||(mQ L.length nG).dE)=false;rw[av];rfl
theorem aq6(n k:Nat)(ar:n<20)(hk:k<5):(hC (SJ n k)).map (fun x=>(x.2,gq x.1,mM x.1))=some (AX k,1,(n:Int)):=by rcases(by omega:n=0\/n=1\/n=2\/n=3\/n=4\/n=5\/n=6\/n=7\/n=8\/n=9\/n=10\/n=11\/n=12\/n=13\/n=14\/n=15\/n=16\/n=17\/n=18\/n=19) with rfl | rfl | rfl | rfl | rfl | rfl | rfl | rfl | rfl | rfl | rfl | rfl | rfl | rfl | rfl | rfl | rfl | rfl | rfl | rfl<;>rcases(by omega:k=0\/k=1\/k=2\/k=3\/k=4) with rfl | rfl | rfl | rfl | rfl<;>kernel_rfl
theorem aq7(l1 bT cm:je)(c m n k:Nat)(ar:n<20)(hk:k<5):A1 (pq (uO ⟨l1,bT,c⟩ [⟨fL,mA,cm,m⟩])) (SJ n k)=0:=by rcases(by omega:n=0\/n=1\/n=2\/n=3\/n=4\/n=5\/n=6\/n=7\/n=8\/n=9\/n=10\/n=11\/n=12\/n=13\/n=14\/n=15\/n=16\/n=17\/n=18\/n=19) with rfl | rfl | rfl | rfl | rfl | rfl | rfl | rfl | rfl | rfl | rfl | rfl | rfl | rfl | rfl | rfl | rfl | rfl | rfl | rfl<;>rcases(by omega:k=0\/k=1\/k=2\/k=3\/k=4) with rfl | rfl | rfl | rfl | rfl<;>kernel_rfl
theorem aq8(ar:n<20)(hk:k<5)(h:hC (SJ n k)=some (ts,t)):t=AX k/\gq ts=1/\mM ts=(n:Int):=by have h1:=aq6 n k ar hk;rw[h] at h1;have H:=bx h1;exact⟨congrArg Prod.fst H,congrArg (fun x=>x.2.1) H,congrArg (fun x=>x.2.2) H⟩
def YG(g:hG)(c:Nat)(eH:ByteArray):Sum Nat (List l7):=if hN (pq g.bY) eH≠0 then .inl (hN (pq g.bY) eH) else match hC eH with
 | none=>.inl 1
 | some x=>match oK g.bY g.dS (eM x.2) x.2 with
  | none=>.inl 6
  | some out=>if 60<=c then .inl 7 else .inr out
theorem atN(ae:hN td eH=0):∃x,hC eH=some x:=by
 cases aa:hC eH with
 | none=>
  have:kq eH [0]=1:=by unfold kq;rw[aa]
  unfold hN at ae;rw[if_pos (by rw[this];decide),this] at ae;cases ae
 | some x=>exact⟨x,rfl⟩
theorem apf(f:qh->n9->Bool)(s:ni)(hu:¬(cU.data.toList=[]\/jf cU.data.toList=false))(eH:ByteArray):(∃oC,oC≠0/\oC<=7/\YG s.ck s.jr.count eH=.inl oC/\gE f s cU eH=⟨oC,0,[],s⟩)\/(∃out,YG s.ck s.jr.count eH=.inr out/\apq s cU eH (nh cU s.ck.dS (hj (out.map (·.2))) s.jr)/\gE f s cU eH=if oa (f (nh cU s.ck.dS (hj (out.map (·.2))) s.jr)) s.nj≠0 then ⟨10,oa (f (nh cU s.ck.dS (hj (out.map (·.2))) s.jr)) s.nj,[],s⟩ else ⟨0,0,out,{s with jr:=nh cU s.ck.dS (hj (out.map (·.2))) s.jr}⟩):=by
 unfold gE YG;rw[if_neg hu];by_cases ae:hN (pq s.ck.bY) eH≠0
 ·rw[if_pos ae,if_pos ae];exact .inl ⟨_,ae,bX (avs _ _) K,rfl,rfl⟩
 ·rw[if_neg ae,if_neg ae];have zb:hN (pq s.ck.bY) eH=0:=by simpa using ae
  obtain⟨x,aa⟩:=atN zb;rw[aa];simp only[];cases ak:oK s.ck.bY s.ck.dS (eM x.2) x.2 with
  | none=>exact .inl ⟨6,K,K,rfl,rfl⟩
  | some out=>
   simp only[];by_cases ai:60<=s.jr.count
   ·rw[if_pos ai,if_pos ai];exact .inl ⟨7,K,K,rfl,rfl⟩
   ·rw[if_neg ai,if_neg ai];have hw:jf cU.data.toList=true:=by
     cases aa:jf cU.data.toList with
     | true=>rfl
     | false=>exact absurd (.inr aa) hu
    exact .inr ⟨out,rfl,⟨pq s.ck.bY,x.1,x.2,out,atI _,zb,aa,ak,r,hw,rfl⟩,rfl⟩
theorem atP:JW AT.jr:=by
 have aw:JW ⟨[],[],0⟩:=⟨K,K,K,fun C ag=>absurd ag (List.not_mem_nil),fun C ag=>absurd ag (List.not_mem_nil)⟩;have h1:=aw.with (cU:=hS) (time:=0) (ts:=[(fL,1)]) K K K K K (fun t au=>by
  obtain rfl:=ic au;exact⟨K,K,K⟩)
 exact h1.with (cU:=hS) (time:=0) (ts:=[]) K K K K K (fun t au=>absurd au (List.not_mem_nil))
def C2(O:Nat):hG:=⟨[⟨fL,mA,[],1⟩],(O:Int)⟩
theorem aq9(h:O<=gU)(Yp:gU<=1000000000000):C5 (C2 O) (gU:Int)=((gU:Int),C2 gU):=by
 unfold C5 C2;by_cases he:O=gU
 ·subst he;rw[if_neg (by simp)]
 ·rw[if_pos (by simp;omega)]
theorem ara(O:Nat):oK (C2 O).bY (C2 O).dS [(fL,um)] (.query PO [(fL,um)] .nil .nil .nil)=some []:=by rw[YV (B:=(C2 O).bY) (O:=(C2 O).dS) (wh:=.nil) (cm:=[]) (fun _=>true) ax ax (fun st=>rfl) K];rw[List.filter_nil,List.map_nil,Ye];rfl
theorem arb(O c:Nat)(ai:c<60):YG (C2 O) c CV=.inr []:=by
 unfold YG;have ae:hN (pq (C2 O).bY) CV=0:=anr _ _;rw[if_neg (by rw[ae];exact fun h=>h rfl),aoS];simp only[];have ak:oK (C2 O).bY (C2 O).dS (eM t2) t2=some []:=by rw[adZ];exact ara O
 rw[ak];simp only[];rw[if_neg r]
def eq(given:List Nat)(O n:Nat):List Int:=(given.map fun t:Nat=>(t:Int)).filter fun t=>decide ((O:Int)-(n:Int)<t)
def sm(l:je)(O n:Nat):je:=l.filter fun C=>decide (2<C.1)&&decide ((O:Int)-(n:Int)<ph C)
structure JY (n k:Nat) (p:n9) (O:Nat) (given:List Nat) (s:ni):Prop where
 ck:s.ck=C2 O
 nj:s.nj=[p]
 num:p.num=1
 since:p.since=2
 form:p.form=1
 span:p.span=(n:Int)
 jr:JW s.jr
 count:s.jr.count=given.length+2
 YH:AW s.jr.log
 top:∀C∈s.jr.log,C.1<=s.jr.count/\ph C<=(O:Int)
 win:(sm s.jr.log O n).map ph=eq given O n
theorem arc{l:je}(h:(sm l O n).map ph=eq given O n)(ar:O<=gU):(sm l gU n).map ph=eq given gU n:=by
 have Y:sm l gU n=(sm l O n).filter fun C=>decide ((gU:Int)-(n:Int)<ph C):=by unfold sm;rw[List.filter_filter];apply List.filter_congr;intro C _;by_cases h1:2<C.1<;>by_cases H:(gU:Int)-(n:Int)<ph C<;>simp[h1,H]<;>omega
 have am:eq given gU n=(eq given O n).filter fun t=>decide ((gU:Int)-(n:Int)<t):=by unfold eq;rw[List.filter_filter];apply List.filter_congr;intro t _;by_cases H:(gU:Int)-(n:Int)<t<;>simp[H]<;>omega
 rw[Y,am,<-h,List.filter_map];rfl
theorem JY.tick(h:JY n k p O given s)(ar:O<=gU):JY n k p gU given {s with ck:=C2 gU}:=⟨rfl,h.nj,h.num,h.since,h.form,h.span,h.jr,h.count,h.YH,fun C ag=>⟨(h.top C ag).1,by have:=(h.top C ag).2;show ph C<=(gU:Int);omega⟩,arc h.win ar⟩
def vM(n:Nat):Nat:=if 0<n then 1 else 0
theorem ard(given:List Nat)(O n:Nat):eq (given++[O]) O n=eq given O n++if 0<n then [(O:Int)] else []:=by
 unfold eq;rw[List.map_append,List.filter_append];congr 1;by_cases h:0<n
 ·rw[if_pos h,List.map_singleton,List.filter_cons,if_pos (decide_eq_true r),List.filter_nil]
 ·rw[if_neg h,List.map_singleton,List.filter_cons,if_neg (by simp;omega),List.filter_nil]
theorem are(l:je)(O n:Nat)(x:Nat×List al)(H:2<x.1)(au:ph x=(O:Int)):sm (l++[x]) O n=sm l O n++if 0<n then [x] else []:=by
 unfold sm;rw[List.filter_append];congr 1;by_cases h:0<n
 ·rw[if_pos h,List.filter_cons,if_pos (by rw[au];simp[H];omega),List.filter_nil]
 ·rw[if_neg h,List.filter_cons,if_neg (by rw[au];simp;omega),List.filter_nil]
theorem akb(e:Int)(l:je):(q0 e l).Sublist l:=by
 unfold q0;split
 ·exact List.nil_sublist _
 ·exact List.drop_sublist _ _
theorem akc(h:JY n k p O given s)(l:je)(X:AW l):q0 ((PU p.since p.form p.span s.ck.dS l:Nat):Int) l=sm l O n:=by unfold PU;rw[h.since,h.form,h.span,h.ck,if_neg K];exact aqo 2 ((O:Int)-(n:Int)) X
theorem arf(h:JY n k p O given s)(R:given.length<50)(PQ:O<=1000000000000):(k<(eq given O n).length+vM n->gE (PH (fun _=>AX k) s.ck) s hS CV=⟨10,1,[],s⟩)/\(¬k<(eq given O n).length+vM n->(gE (PH (fun _=>AX k) s.ck) s hS CV).qk=0/\(gE (PH (fun _=>AX k) s.ck) s hS CV).Jt=0/\JY n k p O (given++[O]) (gE (PH (fun _=>AX k) s.ck) s hS CV).FX):=by
 have ai:=h.count;have Vl:¬(hS.data.toList=[]\/jf hS.data.toList=false):=K;have akd:YG s.ck s.jr.count CV=.inr []:=by rw[h.ck];exact arb O _ r
 rcases apf (PH (fun _=>AX k) s.ck) s Vl CV with⟨oC,_,_,bm,_⟩ | ⟨out,jH,k2,rk⟩
 ·rw[akd] at bm;cases bm
 rw[akd] at jH;injection jH with jH;subst jH;have atA:hj (([]:List l7).map (·.2))=[]:=ao3;rw[atA] at k2 rk;obtain⟨YJ,YK⟩:=PG [] 0 K;have ok:hA 1 s.ck:=by rw[h.ck];exact⟨YJ.wA,YJ.B,by show(0:Int)<=(O:Int);omega,by show(O:Int)<=1000000000000;omega⟩
 have fit:lw s.ck:=by rw[h.ck];exact YK
 have lX:s.ck.bY=[⟨fL,mA,[],1⟩]:=by rw[h.ck];rfl
 have atJ:s.ck.dS=(O:Int):=by rw[h.ck];rfl
 have aS:=apA lX ok fit K h.jr k2;have Ys:(nh hS s.ck.dS [] s.jr).log=s.jr.log++[(s.jr.count+1,[iX ((s.jr.count+1:Nat):Int),CN hS,iX s.ck.dS])]:=rfl;have YW:ph (s.jr.count+1,[iX ((s.jr.count+1:Nat):Int),CN hS,iX s.ck.dS])=(O:Int):=atJ;have ake:AW (nh hS s.ck.dS [] s.jr).log:=by
  rw[Ys];refine h.YH.snoc (fun C ag=>⟨?_,?_⟩) (by show 1<=s.jr.count+1;omega)
  ·have:=(h.top C ag).1;show C.1<s.jr.count+1;omega
  ·rw[YW];exact(h.top C ag).2
 have zD:sm (nh hS s.ck.dS [] s.jr).log O n=sm s.jr.log O n++if 0<n then [(s.jr.count+1,[iX ((s.jr.count+1:Nat):Int),CN hS,iX s.ck.dS])] else []:=by rw[Ys];exact are _ _ _ _ (by show 2<s.jr.count+1;omega) YW
 have b7:(sm (nh hS s.ck.dS [] s.jr).log O n).length=(eq given O n).length+vM n:=by rw[zD,cu,<-h.win,cZ];unfold vM;split<;>rfl
 have g1:=aS.vc;have g2:=aS.log;have asR:PH (fun _=>AX k) s.ck (nh hS s.ck.dS [] s.jr) p=decide (k<(eq given O n).length+vM n):=by unfold PH A0;rw[akc h _ ake,aq5 _ _ _ _ _ ?_,b7];have:=List.length_filter_le (fun C=>decide (2<C.1)&&decide ((O:Int)-(n:Int)<ph C)) (nh hS s.ck.dS [] s.jr).log;show(List.filter _ _).length<=20000;omega
 refine⟨fun hk=>?_,fun hk=>?_⟩
 ·have rB:oa (PH (fun _=>AX k) s.ck (nh hS s.ck.dS [] s.jr)) s.nj=1:=by rw[h.nj,oa,asR,decide_eq_true hk,if_pos rfl,h.num]
  rw[rB,if_pos K] at rk;exact rk
 ·have rB:oa (PH (fun _=>AX k) s.ck (nh hS s.ck.dS [] s.jr)) s.nj=0:=by rw[h.nj,oa,asR,decide_eq_false hk];rfl
  rw[rB,if_neg K] at rk;rw[rk];refine⟨rfl,rfl,⟨h.ck,h.nj,h.num,h.since,h.form,h.span,aS,?_,ake,fun C ag=>?_,?_⟩⟩
  ·show s.jr.count+1=(given++[O]).length+2;rw[cu,List.length_singleton];omega
  ·show C.1<=s.jr.count+1/\_;have tw:C∈s.jr.log++[(s.jr.count+1,[iX ((s.jr.count+1:Nat):Int),CN hS,iX s.ck.dS])]:=ag;rcases List.mem_append.1 tw with tw | tw
   ·have:=h.top C tw;exact⟨r,this.2⟩
   ·obtain rfl:=ic tw;exact⟨ap,by rw[YW];exact Int.le_refl _⟩
  ·show(sm (nh hS s.ck.dS [] s.jr).log O n).map ph=_;rw[zD,List.map_append,h.win,ard];congr 1;by_cases ar:0<n
   ·rw[if_pos ar,if_pos ar,List.map_singleton,YW]
   ·rw[if_neg ar,if_neg ar];rfl
theorem atK(h:JY n k p O given s):JY n k p O given {s with jr:=Ge s}/\(Ge s).log.length=(eq given O n).length:=by
 have ai:=h.count;have Vl:(Gd s:Int)=((PU p.since p.form p.span s.ck.dS s.jr.log:Nat):Int):=by
  unfold Gd Ga;rw[h.nj,List.foldl_cons,List.foldl_nil];have:PU p.since p.form p.span s.ck.dS s.jr.log<=s.jr.count:=by
   unfold PU;rw[h.since,h.form,if_neg K];rcases ajX (s.ck.dS-p.span) s.jr.log with e | ⟨C,ag,e⟩
   ·rw[e];omega
   ·have:=(h.top C ag).1;rw[e];omega
  dsimp only;omega
 have Ys:(Ge s).log=sm s.jr.log O n:=by show q0 (Gd s:Int) s.jr.log=_;rw[Vl];exact akc h _ h.YH
 have Kb:(Ge s).log.Sublist s.jr.log:=akb _ _;have akf:(Ge s).ng.Sublist s.jr.ng:=akb _ _;refine⟨⟨h.ck,h.nj,h.num,h.since,h.form,h.span,⟨h.jr.vc,bX Kb.length_le h.jr.log,bX akf.length_le h.jr.Py,fun C ag=>h.jr.cX C (Kb.subset ag),fun C ag=>h.jr.cA C (akf.subset ag)⟩,h.count,h.YH.sub Kb,fun C ag=>h.top C (Kb.subset ag),?_⟩,?_⟩
 ·show(sm (Ge s).log O n).map ph=_;rw[Ys,<-h.win];congr 1;unfold sm;rw[List.filter_filter];apply List.filter_congr;intro C _;rw[Bool.and_self]
 ·rw[Ys,<-h.win,cZ]
def ov(w:World)(b n k O:Nat)(given:List Nat)(W:World):Prop:=∃s p,gF w b s W/\JY n k p O given s/\Il [⟨fL,mA,[],1⟩] p (AX k) W
theorem ov.below{w W aU:World}{b n k O:Nat}{given:List Nat}(h:ov w b n k O given W)(A:Below W.heap.size W aU):ov w b n k O given aU:=by obtain⟨s,p,h1,H,ab⟩:=h;exact⟨s,p,h1.below A,H,ab.below A⟩
theorem ov.ho{w W:World}{b n k O:Nat}{given:List Nat}(h:ov w b n k O given W):Below w.heap.size w W:=by obtain⟨s,p,h1,H,ab⟩:=h;exact h1.ho
theorem atM:AW AT.jr.log/\∀C∈AT.jr.log,C.1<=2/\ph C=0:=by
 have X:AT.jr.log=[(1,[iX 1,CN hS,iX 0]),(2,[iX 2,CN hS,iX 0])]:=by rfl
 rw[X];refine⟨⟨?_,?_⟩,?_⟩
 ·rw[List.pairwise_cons];refine⟨fun b A=>?_,List.pairwise_singleton _ _⟩;obtain rfl:=ic A;decide
 ·intro C ag;rcases List.mem_cons.1 ag with rfl | ag
  ·decide
  ·obtain rfl:=ic ag;decide
 ·intro C ag;rcases List.mem_cons.1 ag with rfl | ag
  ·decide
  ·obtain rfl:=ic ag;decide
theorem atO(ar:n<20)(hk:k<5)(h:gF w b (mB [] 0) W):ey 7 #[M b,.string (SJ n k)] W fun e aU=>e=.returned (.tuple #[q 1,q 0])/\Hid (ov w b n k 0 [] aU):=by
 obtain⟨YJ,YK⟩:=PG [] 0 K;refine(aqu h YJ (by show 0<6;omega) (by show 0<=1000000;omega) (SJ n k) (aq7 _ _ _ _ _ n k ar hk)).mono ?_;rintro e aU ⟨rfl,aa⟩;obtain⟨ts,t,x,q1,bN,fR,iK⟩:=aa.out;obtain⟨rfl,f1,f2⟩:=aq8 ar hk q1;obtain⟨bq,a2⟩:=atM;refine⟨rfl,u ⟨_,_,fR,⟨rfl,rfl,rfl,rfl,f1,f2,atP,rfl,bq,fun C ag=>⟨(a2 C ag).1,by rw[(a2 C ag).2];decide⟩,?_⟩,bN (by rw[f2];omega)⟩⟩;have:sm AT.jr.log 0 n=[]:=by unfold sm;apply List.filter_eq_nil_iff.2;intro C ag;have:=(a2 C ag).1;simp;omega
 show(sm AT.jr.log 0 n).map ph=_;rw[this];rfl
theorem akg(h:JY n k p O given s)(PQ:O<=1000000000000):hA 1 s.ck/\lw s.ck/\s.ck.bY=[⟨fL,mA,[],1⟩]:=by obtain⟨YJ,YK⟩:=PG [] 0 K;rw[h.ck];exact⟨⟨YJ.wA,YJ.B,by show(0:Int)<=(O:Int);omega,by show(O:Int)<=1000000000000;omega⟩,YK,rfl⟩
theorem atQ(h:ov w b n k O given W)(ar:O<=gU)(Yp:gU<=1000000000000):ey 14 #[M b,q (gU:Int)] W fun e aU=>e=.returned (q (gU:Int))/\Hid (ov w b n k gU given aU/\ki W aU):=by
 obtain⟨s,p,h1,H,ab⟩:=h;refine(aq1 h1 (gU:Int)).mono ?_;rintro e aU ⟨rfl,aa⟩;obtain⟨aI,aZ⟩:=aa.out;have au:C5 s.ck (gU:Int)=((gU:Int),C2 gU):=by rw[H.ck];exact aq9 ar Yp
 rw[au] at aI ⊢;exact⟨rfl,u ⟨⟨_,p,aI,H.tick ar,ab.aaX aZ⟩,aZ⟩⟩
theorem atR(h:ov w b n k O given W)(R:given.length<50)(PQ:O<=1000000000000):ey 9 #[M b,.string hS,.string CV] W fun e aU=>∃a m c,(k<(eq given O n).length+vM n/\e=.returned (.tuple #[.agg #[.slice a m c,q 1],q 10])/\Hid (ov w b n k O given aU/\ki W aU))\/(¬k<(eq given O n).length+vM n/\e=.returned (.tuple #[.agg #[.slice a m c,q 0],q 0])/\Hid (ov w b n k O (given++[O]) aU/\ki W aU)):=by
 obtain⟨s,p,h1,H,ab⟩:=h;obtain⟨ok,fit,lX⟩:=akg H PQ;obtain⟨d1,d2⟩:=arf H R PQ;refine(aqt h1 ok fit K lX H.jr (by rw[H.nj];show 1<=100;omega) (fun _=>AX k) (fun U ae=>by
  rw[H.nj] at ae;obtain rfl:=ic ae;rw[lX];exact ab) hS CV K).mono ?_
 rintro e aU ⟨a,m,c,rfl,ct⟩;obtain⟨jH,k2,rk⟩:=ct.out;refine⟨a,m,c,?_⟩;by_cases hk:k<(eq given O n).length+vM n
 ·rw[d1 hk] at k2 ⊢;exact .inl ⟨hk,rfl,u ⟨⟨s,p,k2,H,ab.aaX rk⟩,rk⟩⟩
 ·obtain⟨Y,am,bm⟩:=d2 hk;rw[Y,am];exact .inr ⟨hk,rfl,u ⟨⟨_,p,k2,bm,ab.aaX rk⟩,rk⟩⟩
theorem atS(h:ov w b n k O given W)(ar:n<20)(PQ:O<=1000000000000):ey 15 #[M b] W fun e aU=>(∃v,e=.returned v)/\Hid (ov w b n k O given aU/\ki W aU/\ey 16 #[M b] aU fun e h5=>e=.returned (q ((eq given O n).length:Int))/\Hid (Below aU.heap.size aU h5)):=by
 obtain⟨s,p,h1,H,ab⟩:=h;obtain⟨ok,fit,lX⟩:=akg H PQ;refine(aq2 h1 ok H.jr (by rw[H.nj];show 1<=100;omega) (fun U ae=>by
  rw[H.nj] at ae;obtain rfl:=ic ae;rw[H.span];omega)).mono ?_
 rintro e aU ⟨hv,aa⟩;obtain⟨aI,aZ⟩:=aa.out;obtain⟨c1,c2⟩:=atK H;refine⟨hv,u ⟨⟨_,p,aI,c1,ab.aaX aZ⟩,aZ,?_⟩⟩;have:=aqY aI;rw[show({s with jr:=Ge s}:ni).jr.log.length=(eq given O n).length from c2] at this;exact this
theorem atT(h:ov w b n k O given W):ey 8 #[M b] W fun e aU=>e=.returned (q ((given.length:Int)+2))/\Hid (Below W.heap.size W aU):=by obtain⟨s,p,h1,H,ab⟩:=h;have:=aqw h1;rw[H.count] at this;exact this.mono (fun e aU h=>⟨h.1.trans (by rw[show((given.length+2:Nat):Int)=(given.length:Int)+2 from r]),h.2⟩)
def DT(given:List Nat)(O n j:Nat):Nat:=(eq (given.take j) O n).length
theorem ans(given:List Nat)(O n j:Nat)(aS:j<given.length):DT given O n (j+1)=DT given O n j+if (O:Int)-(n:Int)<(given[j]:Int) then 1 else 0:=by
 unfold DT eq;rw[jD aS,List.map_append,List.filter_append,cu];congr 1;rw[List.map_singleton,List.filter_cons];by_cases h:(O:Int)-(n:Int)<(given[j]:Int)
 ·rw[if_pos (decide_eq_true h),if_pos h];rfl
 ·rw[if_neg (by simpa using h),if_neg h];rfl
theorem ach(given:List Nat)(O n:Nat):DT given O n given.length=(eq given O n).length:=by unfold DT;rw[List.take_length]
theorem acn(given:List Nat)(O n j:Nat):DT given O n j<=given.length:=by unfold DT eq;refine bX (List.length_filter_le _ _) ?_;rw[cZ,List.length_take];omega
def apb(w:World)(v:Value)(l:List Int):Prop:=(∃a af,v=.slice a l.length af/\(l=[]\/∃g off,a=some ⟨g,off,none⟩/\g<w.heap.size/\∀i (h:i<l.length),dp w g (off+i)=some (q l[i])))/\l.length<=1048576/\∀x∈l,-9223372036854775808<=x/\x<=9223372036854775807
def apd(w:World)(v:Value)(l:List Bool):Prop:=(∃a af,v=.slice a l.length af/\(l=[]\/∃g off,a=some ⟨g,off,none⟩/\g<w.heap.size/\∀i (h:i<l.length),dp w g (off+i)=some (.bool l[i])))/\l.length<=1048576
theorem atU:(prog.info? 3).map (fun i=>(i.zero,i.size,i.bytes))=some (some (q 0),1,8):=ax
def adx(l:List Nat):List Value:=l.map fun t:Nat=>q (t:Int)
def sy(lo:Nat)(w:World)(v:Value)(l:List Nat):Prop:=w.ownsRow lo 3 1 v l.length (adx l)
theorem sy.get(h:sy lo w (.slice a n c) l)(i:Nat)(hi:i<l.length):∃g,a=some ⟨g,0,none⟩/\dp w g i=some (q (l[i]:Int)):=by obtain⟨nB,e7,e⟩:=cG h;injection e with Y am bm;subst Y am bm;obtain⟨g,e,R⟩:=vA h r;subst e;have bk:=World.ownsRow.cells h rfl i (q (l[i]:Int)) (by unfold adx;rw[List.getElem?_map,fC hi];rfl);rw[Addr.add_lit,Nat.zero_add] at bk;exact⟨g,rfl,bk⟩
theorem sy.push(h:sy lo w (.slice a l.length c) l)(A:lo<=w.heap.size)(X:l.length<=1000)(t:Nat):∃nB e7 w',(∀ty,(Builtin.append_ #[38,38] ty #[.slice a l.length c,.slice (some ⟨w.heap.size,0,none⟩) 1 1]).run prog (w.alloc (.cells #[q (t:Int)] 3))=.ok (.slice nB (l.length+1) e7) w')/\sy lo w' (.slice nB (l.length+1) e7) (l++[t])/\Below lo w w'/\da (fun U=>(Value.slice a l.length c).ownBlock=some U) w w':=by
 obtain⟨cF,w',ag,an,R,fq⟩:=ug underlying38 atU rfl K K h #[q (t:Int)] rfl (by simp[Value.oneCell']) r A;obtain⟨nB,e7,rfl⟩:=cG an;refine⟨nB,e7,w',ag,?_,((Below.refl lo w).alloc A _).grown R (by rw[cc];omega) (fun k e=>(h.lt k e).1),(da.of cT).andThen (da.grown R (fun k e=>e))⟩;unfold sy adx;rw[cu,List.map_append];exact an
theorem sy.aaX(h:sy lo w v l)(av:ki w w'):sy lo w' v l:=ki.row av (by unfold oM;decide) h
theorem sy.below{lo:Nat}{w w':World}{v:Value}{l:List Nat}(h:sy lo w v l)(A:Below w.heap.size w w'):sy lo w' v l:=h.aaX (ki.below A)
theorem atV{atW:Nat}(h:w.ownsRow lo e atW v n xs)(U:Nat)(ae:v.ownBlock=some U):∃cs,w.heap[U]?=some (.cells cs e (0,0)):=by
 rcases h.2 with⟨bo,aw⟩ | ⟨g,cJ,ay,bo,eI,ed,_⟩
 ·rw[bo] at ae;simp[Value.ownBlock] at ae
 ·rw[bo] at ae;simp[Value.ownBlock] at ae;subst ae;exact⟨ay,ed⟩
theorem ov.yc{m:Nat}(h:ov w b n k O given W)(ag:W.ownsRow lo 3 1 v m xs)(hs:da (fun U=>v.ownBlock=some U) W aU)(A:Below w.heap.size W aU)(X:w.heap.size<=lo)(b5:8<=w.heap.size):ov w b n k O given aU:=by
 obtain⟨s,p,⟨⟨F,h1,H⟩,ab,aK⟩,cO,⟨⟨nJ,hi,td,j,q1,bN⟩,fR⟩⟩:=h;have cy:∀U cs bp m,W.heap[U]?=some (.cells cs bp m)->bp≠3->¬v.ownBlock=some U:=by intro U cs bp m e hu ae;obtain⟨fU,bo⟩:=atV ag U ae;rw[e] at bo;injection bo with bo;injection bo with _ bo;exact hu bo
 refine⟨s,p,⟨⟨F,h1.aside hs (fun U hF ae=>?_),H⟩,Below.trans ab A,aK.anx hs (fun U ae=>bX b5 (bX X (ag.lt U ae).1))⟩,cO,⟨⟨nJ,hi,td,j,q1,bN.a8 (fun k cs m e _ _=>?_) (fun k cs m e6 au e=>?_)⟩,fR⟩⟩
 ·obtain⟨⟨cs,t,m,e,Es⟩,_⟩:=h1.1 U hF;exact cy U cs t m e (by unfold oM at Es;rcases Es with rfl | rfl | rfl | rfl | rfl | rfl | rfl<;>decide) ae
 ·exact(hs.block k (jq e) (cy k cs _ m e K)).trans e
 ·exact(hs.block k (jq e) (cy k cs _ m e (by rcases au with rfl | rfl | rfl<;>decide))).trans e
theorem atX(n k:Nat):(⟨#[119,105,116,104,105,110,32]⟩:ByteArray)++im (n:Int)++⟨#[32,115,101,108,101,99,116,32,99,111,117,110,116,40,42,41,32,102,114,111,109,32,108,111,103,32,113,32,104,97,118,105,110,103,32,99,111,117,110,116,40,42,41,32,62,32]⟩++im (k:Int)=SJ n k:=by apply ByteArray.ext;apply Array.ext';simp[SJ,a7]
theorem ape:∀m:Nat,m<20->(im (m:Int)).size<=30:=by decide +kernel
theorem atY(n k:Int)(AV:List Int)(aE:Value)(comp:List Bool)(fl:Value)(w:World)(dh:Ground w)(bM : -9223372036854775808<=n)(b9:n<=9223372036854775807)(aI : -9223372036854775808<=k)(aZ:k<=9223372036854775807)(au:apb w aE AV)(DZ:apd w fl comp):ey 4 #[q n,q k,aE,fl] w fun e w'=>e=.returned (.bool true)/\Below w.heap.size w w':=by
 have cS:=(F7 (c:=n) (n:=20) K).2;have e1:=(F7 (c:=k) (n:=5) K).2;have bK:Hid (ey 6 #[.slice none 0 0] w fun e J=>∃b,e=.returned (M b)/\Hid (gF w b (mB [] 0) J)):=u ((YO [] (.slice none 0 0) w dh ⟨⟨none,0,rfl,.inl rfl⟩,K,fun o ct=>by cases ct⟩).mono (by
  rintro e J ⟨b,rfl,hk⟩;exact⟨b,rfl,u hk⟩))
 have Ep:Hid (∀W,ey 12 #[q n,q 20] W fun e w'=>e=.returned (q (qZ n 20:Int))/\W=w'):=u (fun W=>X7 n 20 W bM b9 K K);have xf:Hid (∀W,ey 12 #[q k,q 5] W fun e w'=>e=.returned (q (qZ k 5:Int))/\W=w'):=u (fun W=>X7 k 5 W aI aZ K K);have b5:=dh.uJ.js;clear bM b9 aI aZ dh;generalize qZ n 20=S6 at *;generalize qZ k 5=iC at *;have aja:Hid (∀W,ey 13 #[q (S6:Int)] W fun e w'=>e=.returned (.string (im (S6:Int)))/\Hid (Below W.heap.size W w')):=u (fun W=>(JF (S6:Int) W r r).mono (fun e w' h=>⟨h.1,u h.2⟩));have ET:Hid (∀W,ey 13 #[q (iC:Int)] W fun e w'=>e=.returned (.string (im (iC:Int)))/\Hid (Below W.heap.size W w')):=u (fun W=>(JF (iC:Int) W r r).mono (fun e w' h=>⟨h.1,u h.2⟩))
 have apF:Hid (∀W b,gF w b (mB [] 0) W->ey 7 #[M b,.string (⟨#[119,105,116,104,105,110,32]⟩++im (S6:Int)++⟨#[32,115,101,108,101,99,116,32,99,111,117,110,116,40,42,41,32,102,114,111,109,32,108,111,103,32,113,32,104,97,118,105,110,103,32,99,111,117,110,116,40,42,41,32,62,32]⟩++im (iC:Int))] W fun e aU=>e=.returned (.tuple #[q 1,q 0])/\Hid (ov w b S6 iC 0 [] aU)):=u (fun W b h=>by rw[atX];exact atO cS e1 h);have s1:=ape S6 cS;have s2:=ape iC r;have b3:¬9223372036854775807<7+(im (S6:Int)).size:=r;have z2:¬9223372036854775807<7+(im (S6:Int)).size+46:=r;have z3:¬9223372036854775807<7+(im (S6:Int)).size+46+(im (iC:Int)).size:=r;obtain⟨⟨bt,bD,rfl,nU⟩,nN,Yx⟩:=au;obtain⟨⟨gB,dz,rfl,dG⟩,fg⟩:=DZ;have at0:=u nU
 have LJ:=u Yx;have gu:=u dG;clear nU Yx dG s1 s2;go_enter func4,ntmps4;go_upto_region 4 with(first | (go_at_call 6;refine bK.out.mono ?_;rintro e J ⟨b,rfl,H1⟩));go_upto_region 5 with(first | (go_at_call 12;refine(Ep.out _).mono ?_;rintro e awo ⟨rfl,rfl⟩));go_upto_region 6 with(first | (go_at_call 12;refine(xf.out _).mono ?_;rintro e awp ⟨rfl,rfl⟩));generalize im (S6:Int)=JN at *;generalize im (iC:Int)=awq at *;go_upto_region 7 with(first
  | (go_at_call 7;refine(apF.out aA b ((H1.out.below iH.out).below l2.out)).mono ?_;rintro e bI ⟨rfl,l9⟩)
  | (go_at_call 13;refine(ET.out S).mono ?_;rintro e aA ⟨rfl,l2⟩)
  | (go_at_call 13;refine(aja.out J).mono ?_;rintro e S ⟨rfl,iH⟩))
 go_upto_region 12 with fail;clear bK Ep xf aja ET apF H1 iH l2 b3 z2 z3;go_loopg [12,13,14,15,16,17,18,19,20,21,22,23,24] (AV.length+1) (fun U gv Ya uN av6 av7 v17 av8 av9 v20 v21 v22 v23 v24 wr=>∃(i O:Nat) (given:List Nat) (bf:Option Addr) (gc:Nat),i<=AV.length/\given.length<=50/\O<=7*i/\gv=.slice bf given.length gc/\Ya=q (O:Int)/\uN=q (i:Int)/\Hid (sy w.heap.size wr (.slice bf given.length gc) given)/\Hid (ov w b S6 iC O given wr)/\AV.length-i<U);case atStart=>exact⟨0,0,[],none,0,bu,bu,bu,rfl,rfl,rfl,u (World.ownsRow_nil _ _ _ _),l9,r⟩
 case round=>
  obtain⟨i,O,given,bf,gc,hi,ef,PQ,rfl,rfl,rfl,ahQ,ajr,ae⟩:=hrel;by_cases aD:i<AV.length/\given.length<50
  ·obtain⟨apL,hE⟩:=aD;have awa:(i:Int)<(AV.length:Int):=r;have uE:(given.length:Int)<50:=r;obtain⟨g,off,rfl,R,iV⟩:∃g off,bt=some ⟨g,off,none⟩/\g<w.heap.size/\∀i (h:i<AV.length),dp w g (off+i)=some (q AV[i]):=by
    rcases at0.out with h | h
    ·rw[h] at apL;exact absurd apL (fp _)
    ·exact h
   have bz:dp wr g (off+i)=some (q AV[i]):=(ajr.out.ho.cell (p:=⟨g,off+i,none⟩) R).trans (iV i apL);obtain⟨t1,t2⟩:=LJ.out _ (ec apL);have ajD:=u (fun aU=>X7 AV[i] 8 aU t1 t2 K K);have atZ:=(F7 (c:=AV[i]) (n:=8) K).2;clear iV t1 t2;generalize AV[i]=amE at *;generalize qZ amE 8=ST at *;have aiv:IntKind.i64.wrap ((O:Int)+(ST:Int))=((O+ST:Nat):Int):=by rw[IntKind.wrap_i64];omega
   have aej:IntKind.i64.wrap ((i:Int)+1)=(i:Int)+1:=mC;have w7:=u (atQ (gU:=O+ST) ajr.out r r);have tf:O+ST<=7*(i+1):=r;generalize O+ST=bv at *;have nv:=u tf;have Yp:bv<=1000000000000:=r;have ch:=u ae;clear PQ tf ajr ae atZ;go_upto_block 2 with(first
    | (go_at_call 14;refine w7.out.mono ?_;rintro e bh ⟨rfl,rq⟩)
    | (go_at_call 12;refine(ajD.out _).mono ?_;rintro e awr ⟨rfl,rfl⟩))
   have ahS:Hid (sy w.heap.size bh (.slice bf given.length gc) given):=u (ahQ.out.aaX rq.out.2);go_cut [17,18] (fun inv YC wc=>inv=q ((eq given bv S6).length:Int)/\wc=bh);case first=>
    as_aux_lemma=>
     go_wp2_with fail;go_loopg [17,18] (given.length+1) (fun U inv YC wk=>∃j:Nat,j<=given.length/\YC=q (j:Int)/\inv=q (DT given bv S6 j:Int)/\wk=bh/\given.length-j<U);case atStart=>exact⟨0,bu,rfl,rfl,rfl,r⟩
     case round=>
      obtain⟨j,aS,rfl,rfl,JO,ae⟩:=hrel;by_cases sr:j<given.length
      ·have ab0:(j:Int)<(given.length:Int):=r;obtain⟨il,rfl,ahT⟩:=sy.get ahS.out j sr;have iz:=u (ans given bv S6 j sr);have pN:=acn given bv S6 j;rw[<-JO] at ahT;have PM:=u JO;clear JO;generalize given[j]=YD at *;have agk:IntKind.i64.wrap ((bv:Int)-(S6:Int))=(bv:Int)-(S6:Int):=mC;have vt:IntKind.i64.wrap ((j:Int)+1)=(j:Int)+1:=mC;have uj:IntKind.i64.wrap ((DT given bv S6 j:Int)+1)=(DT given bv S6 j:Int)+1:=mC;by_cases YE:(bv:Int)-(S6:Int)<(YD:Int)
       ·rw[if_pos YE] at iz;go_wp2_with fail;go_roundg (gk-1);case measure=>omega
        case rel=>exact⟨j+1,r,by go_num,congrArg (Value.int .i64) (by rw[iz.out];omega),PM.out,r⟩
       ·rw[if_neg YE] at iz;have at1:(YD:Int)<=(bv:Int)-(S6:Int):=r;go_wp2_with fail;go_roundg (gk-1);case measure=>omega
        case rel=>exact⟨j+1,r,by go_num,congrArg (Value.int .i64) (by rw[iz.out];rfl),PM.out,r⟩
      ·have eZ:j=given.length:=r;have yR:=u (ach given bv S6);have PM:=u JO;subst eZ;have hle:(given.length:Int)<=(given.length:Int):=r;clear JO sr;go_wp2_with fail;go_meet;case rel=>exact⟨congrArg (Value.int .i64) (by rw[yR.out]),PM.out⟩
   case rest=>
    obtain⟨rfl,uj⟩:=hcut;subst uj;obtain⟨asG,rfl⟩:∃x,x=wc:=⟨_,rfl⟩;have apg:Hid (ey 9 #[M b,.string ⟨#[117]⟩,.string ⟨#[115,101,108,101,99,116,32,97,46,120,32,102,114,111,109,32,116,32,97]⟩] asG fun e aU=>∃a m c,(iC<(eq given bv S6).length+vM S6/\e=.returned (.tuple #[.agg #[.slice a m c,q 1],q 10])/\Hid (ov w b S6 iC bv given aU/\ki asG aU))\/(¬iC<(eq given bv S6).length+vM S6/\e=.returned (.tuple #[.agg #[.slice a m c,q 0],q 0])/\Hid (ov w b S6 iC bv (given++[bv]) aU/\ki asG aU))):=u (atR rq.out.1 hE Yp);have aws:(eq given bv S6).length<=given.length:=by rw[<-ach];exact acn _ _ _ _
    generalize asg:(eq given bv S6).length=ahp at *;have YR:=u asg;clear asg rq;have awt:IntKind.i64.wrap ((ahp:Int)+1)=(ahp:Int)+1:=mC;go_upto_if 89 with fail;go_cut [17] (fun inv UO=>inv=q ((ahp+vM S6:Nat):Int)/\UO=asG);case first=>
     by_cases zJ:0<S6
     ·have hT:Hid (vM S6=1):=u (by unfold vM;rw[if_pos zJ]);have auA:(0:Int)<(S6:Int):=r;go_wp2_with fail;go_meet;case rel=>exact⟨congrArg (Value.int .i64) (by rw[hT.out];omega),rfl⟩
     ·have hT:Hid (vM S6=0):=u (by unfold vM;rw[if_neg zJ]);have auA:¬(0:Int)<(S6:Int):=r;have awu:(S6:Int)<=0:=r;go_wp2_with fail;go_meet;case rel=>exact⟨congrArg (Value.int .i64) (by rw[hT.out];omega),rfl⟩
    case rest=>
     obtain⟨rfl,aix⟩:=hcut;subst aix;obtain⟨UO,rfl⟩:∃x,x=wc:=⟨_,rfl⟩;have aph:Hid (ey 9 #[M b,.string ⟨#[117]⟩,.string ⟨#[115,101,108,101,99,116,32,97,46,120,32,102,114,111,109,32,116,32,97]⟩] UO fun e aU=>∃(a:Option Addr) (m c Nj UP:Nat),e=.returned (.tuple #[.agg #[.slice a m c,q (Nj:Int)],q (UP:Int)])/\Hid ((iC<ahp+vM S6/\Nj=1/\UP=10/\ov w b S6 iC bv given aU/\ki UO aU)\/(¬iC<ahp+vM S6/\Nj=0/\UP=0/\ov w b S6 iC bv (given++[bv]) aU/\ki UO aU))):=u (apg.out.mono (by
      rintro e aU ⟨a,m,c,⟨hk,rfl,aa⟩ | ⟨hk,rfl,aa⟩⟩
      ·exact⟨a,m,c,1,10,rfl,u (.inl ⟨hk,rfl,rfl,aa.out.1,aa.out.2⟩)⟩
      ·exact⟨a,m,c,0,0,rfl,u (.inr ⟨hk,rfl,rfl,aa.out.1,aa.out.2⟩)⟩))
     clear apg;generalize ahp+vM S6=ahU at *;go_upto_if 99 with(go_at_call 9;refine aph.out.mono ?_;rintro e cw ⟨dc,YX,de,Nj,UP,rfl,p6⟩);have dF:Below cw.heap.size cw (cw.alloc (.cells #[.slice dc YX de,q (Nj:Int)] 32)):=cT;have aT:=bH cw (.cells #[.slice dc YX de,q (Nj:Int)] 32);have h0:(cw.alloc (.cells #[.slice dc YX de,q (Nj:Int)] 32)).cell? ⟨cw.heap.size,1,none⟩=some (q (Nj:Int)):=Z aT (i:=1) rfl;have r1:=u dF;clear dF aT aph;generalize Oe:cw.alloc (.cells #[.slice dc YX de,q (Nj:Int)] 32)=YS at *;have za:Hid (∀g,ov w b S6 iC bv g cw->ov w b S6 iC bv g YS):=u (fun g h=>h.below r1.out);have ajS:Hid (ki UO cw->sy w.heap.size YS (.slice bf given.length gc) given):=u (fun av=>(ahS.out.aaX av).below r1.out);clear r1 Oe;generalize cw.heap.size=awv at *
     go_cut [12,20] (fun gv kr VL=>∃(g2:List Nat) (PP:Option Addr) (aie:Nat),gv=.slice PP g2.length aie/\g2.length<=50/\Hid (sy w.heap.size VL (.slice PP g2.length aie) g2)/\Hid (ov w b S6 iC bv g2 VL));case first=>
      rcases p6.out with⟨hk,Bd,hF,YF,aqv⟩ | ⟨hk,Bd,hF,YF,aqv⟩
      ·have gi:(iC:Int)<(ahU:Int):=r;have auB:(UP:Int)=10:=r;have aww:(Nj:Int)=1:=r;have oG:=u (za.out _ YF);have Dh:=u (ajS.out aqv);clear Bd hF YF aqv p6;go_wp2_with fail;go_meet;case rel=>exact⟨given,bf,gc,rfl,r,Dh,oG⟩
      ·have gi:¬(iC:Int)<(ahU:Int):=r;have YT:(ahU:Int)<=(iC:Int):=r;have auB:(UP:Int)=0:=r;have oG:=u (za.out _ YF);have OK:=ajS.out aqv;have eI:w.heap.size<=YS.heap.size:=oG.out.ho.size;obtain⟨PP,aie,zx,p1,p2,fw,pf⟩:=sy.push OK eI r bv;have qa:=u p1;have xf:=u p2;have aqa:Hid (ov w b S6 iC bv (given++[bv]) zx):=u (oG.out.yc OK pf fw ap b5);clear Bd hF YF aqv p6 p1 p2 fw pf OK eI;go_wp2_with (at_builtin;refine Lib.wpList_append_run _ rfl _ _ _ _ rfl _ _ rfl rfl _ _ (qa.out _) ?_);go_meet;case rel=>exact⟨given++[bv],PP,aie,by rw[cu];rfl,by rw[cu];show _+1<=50;omega,by rw[cu];exact xf,aqa⟩
     case rest=>
      obtain⟨g2,PP,aie,rfl,bC,Pf,M3⟩:=hcut;obtain⟨VL,rfl⟩:∃x,x=wc:=⟨_,rfl⟩;clear h0 p6 za ajS ahS YR ahQ;have wT:=u (atS M3.out cS Yp);have y4:∃dx:Bool,(i<comp.length/\∃pY VM,gB=some ⟨pY,VM,none⟩/\dp VL pY (VM+i)=some (.bool dx))\/(¬i<comp.length/\dx=false):=by
       by_cases h:i<comp.length
       ·rcases gu.out with cC | ⟨pY,VM,Y,am,bm⟩
        ·rw[cC] at h;exact absurd h (fp _)
        ·exact⟨comp[i],.inl ⟨h,pY,VM,Y,(M3.out.ho.cell (p:=⟨pY,VM+i,none⟩) am).trans (bm i h)⟩⟩
       ·exact⟨false,.inr ⟨h,rfl⟩⟩
      obtain⟨dx,y4⟩:=y4;have yR:Hid (∀W,ov w b S6 iC bv g2 W->ey 8 #[M b] W fun e aU=>e=.returned (q ((g2.length:Int)+2))/\Hid (Below W.heap.size W aU)):=u (fun W h=>atT h);have q9:IntKind.i64.wrap ((g2.length:Int)+2)=(g2.length:Int)+2:=mC;rcases y4 with⟨h1,pY,VM,rfl,ce⟩ | ⟨h1,rfl⟩
      ·have pN:(i:Int)<(comp.length:Int):=r;cases dx
       ·clear wT;go_wp2_with (go_at_call 8;refine(yR.out VL M3.out).mono ?_;rintro e DL ⟨rfl,PV⟩);have ae:=ch.out;go_roundg (gk-1);case measure=>omega
        case rel=>exact⟨i+1,bv,g2,PP,aie,r,bC,nv.out,rfl,rfl,by go_num,u (Pf.out.below PV.out),u (M3.out.below PV.out),r⟩
       ·go_upto_block 4 with(first
         | (go_at_call 16;refine YY.out.2.2.mono ?_;rintro e Y3 ⟨rfl,apr⟩)
         | (go_at_call 15;refine wT.out.mono ?_;rintro e uZ ⟨⟨v,rfl⟩,YY⟩))
        have apt:Hid (sy w.heap.size Y3 (.slice PP g2.length aie) g2):=u ((Pf.out.aaX YY.out.2.1).below apr.out);have apu:Hid (ov w b S6 iC bv g2 Y3):=u (YY.out.1.below apr.out);clear wT YY ce Pf M3;go_cut [22,23] (fun c9 YC auC=>c9=q ((eq g2 bv S6).length:Int)/\auC=Y3);case first=>
         as_aux_lemma=>
          go_wp2_with fail;go_loopg [22,23] (g2.length+1) (fun U inv YC wk=>∃j:Nat,j<=g2.length/\YC=q (j:Int)/\inv=q (DT g2 bv S6 j:Int)/\wk=Y3/\g2.length-j<U);case atStart=>exact⟨0,bu,rfl,rfl,rfl,r⟩
          case round=>
           obtain⟨j,aS,rfl,rfl,JO,ae⟩:=hrel;by_cases sr:j<g2.length
           ·have ab0:(j:Int)<(g2.length:Int):=r;obtain⟨il,rfl,ahT⟩:=sy.get apt.out j sr;have iz:=u (ans g2 bv S6 j sr);have pN:=acn g2 bv S6 j;rw[<-JO] at ahT;have PM:=u JO;clear JO;generalize g2[j]=YD at *;have agk:IntKind.i64.wrap ((bv:Int)-(S6:Int))=(bv:Int)-(S6:Int):=mC;have vt:IntKind.i64.wrap ((j:Int)+1)=(j:Int)+1:=mC;have uj:IntKind.i64.wrap ((DT g2 bv S6 j:Int)+1)=(DT g2 bv S6 j:Int)+1:=mC;by_cases YE:(bv:Int)-(S6:Int)<(YD:Int)
            ·rw[if_pos YE] at iz;go_wp2_with fail;go_roundg (gk-1);case measure=>omega
             case rel=>exact⟨j+1,r,by go_num,congrArg (Value.int .i64) (by rw[iz.out];omega),PM.out,r⟩
            ·rw[if_neg YE] at iz;have at1:(YD:Int)<=(bv:Int)-(S6:Int):=r;go_wp2_with fail;go_roundg (gk-1);case measure=>omega
             case rel=>exact⟨j+1,r,by go_num,congrArg (Value.int .i64) (by rw[iz.out];rfl),PM.out,r⟩
           ·have eZ:j=g2.length:=r;have auD:=u (ach g2 bv S6);have PM:=u JO;subst eZ;have hle:(g2.length:Int)<=(g2.length:Int):=r;clear JO sr;go_wp2_with fail;go_meet;case rel=>exact⟨congrArg (Value.int .i64) (by rw[auD.out]),PM.out⟩
        case rest=>
         obtain⟨rfl,auE⟩:=hcut;subst auE;generalize (eq g2 bv S6).length=apv at *;have BF:¬(apv:Int)<(apv:Int):=r;go_wp2_with (go_at_call 8;refine(yR.out wc apu.out).mono ?_;rintro e DL ⟨rfl,PV⟩);have ae:=ch.out;go_roundg (gk-1);case measure=>omega
         case rel=>exact⟨i+1,bv,g2,PP,aie,r,bC,nv.out,rfl,rfl,by go_num,u (apt.out.below PV.out),u (apu.out.below PV.out),r⟩
      ·have pN:¬(i:Int)<(comp.length:Int):=r;have awx:(comp.length:Int)<=(i:Int):=r;clear wT;go_wp2_with (go_at_call 8;refine(yR.out VL M3.out).mono ?_;rintro e DL ⟨rfl,PV⟩);have ae:=ch.out;go_roundg (gk-1);case measure=>omega
       case rel=>exact⟨i+1,bv,g2,PP,aie,r,bC,nv.out,rfl,rfl,by go_num,u (Pf.out.below PV.out),u (M3.out.below PV.out),r⟩
  ·have nC:Hid (Below w.heap.size w wr):=u ajr.out.ho;clear ahQ ajr;rcases(by omega:¬i<AV.length\/(i<AV.length/\¬given.length<50)) with h | ⟨h,cC⟩
   ·have vq:¬(i:Int)<(AV.length:Int):=r;have Y0:(AV.length:Int)<=(i:Int):=r;clear aD h;go_wp2_with fail;go_ret;exact⟨rfl,nC.out⟩
   ·have vq:(i:Int)<(AV.length:Int):=r;have Y0:¬(given.length:Int)<50:=r;have apy:(50:Int)<=(given.length:Int):=r;clear aD h cC;go_wp2_with fail;go_ret;exact⟨rfl,nC.out⟩
end Go.Proofs.YtkpddlaljibdoaaGreatDoor
