import Derived.Test.YtkpddlaljibdoaaGreatDoorB041
import Derived.Test.YtkpddlaljibdoaaGreatDoorB042
set_option maxHeartbeats 20000000
set_option maxRecDepth 100000
set_option linter.all false
namespace Go.Proofs.YtkpddlaljibdoaaGreatDoor
open Tryz
open bS
variable{s fu s1 s2 bp:ni}{eH cU:ByteArray}{ts:e4}{t wh:aL}{W aU w w':World}{N b cN bL c i k lo n:Nat}{a:Option Addr}{F:Nat->Prop}{v:Value}{g:hG}{td:List eb}{iy:bG}{j:qh}{B:List bG}{O:Int}{p:n9}{cD:List (Int×Int)}
def fL:ByteArray:=⟨#[116]⟩
def hS:ByteArray:=⟨#[117]⟩
def F8:ByteArray:=⟨#[120,58,105,44,121,58,116]⟩
def CU:ByteArray:=⟨#[115,101,108,101,99,116,32,97,46,120,44,32,97,46,121,32,102,114,111,109,32,116,32,97]⟩
def CV:ByteArray:=⟨#[115,101,108,101,99,116,32,97,46,120,32,102,114,111,109,32,116,32,97]⟩
def mA:List (ByteArray×Nat):=[(⟨#[120]⟩,1),(⟨#[121]⟩,2)]
def PE:lL Eb fL F8=(0,⟨[⟨fL,mA,[],0⟩],0⟩):=ax
def Yb:mF ⟨[⟨fL,mA,[],0⟩],0⟩ fL [⟨#[55]⟩,⟨#[39,113,39]⟩]=(1,0,⟨[⟨fL,mA,[(1,[⟨1,7,[]⟩,⟨2,0,[113]⟩])],1⟩],0⟩):=ax
def Yc:pz ⟨[⟨fL,mA,[(1,[⟨1,7,[]⟩,⟨2,0,[113]⟩])],1⟩],0⟩ fL 1=(0,⟨[⟨fL,mA,[],1⟩],0⟩):=ax
def t1:aL:=((hC CU).getD ([],.nil)).2
def t2:aL:=((hC CV).getD ([],.nil)).2
def aoR:hC CU=some (((hC CU).getD ([],.nil)).1,t1):=ax
def aoS:hC CV=some (((hC CV).getD ([],.nil)).1,t2):=ax
def r9:List bG:=[⟨fL,mA,[(1,[⟨1,7,[]⟩,⟨2,0,[113]⟩])],1⟩]
def vI:List bG:=[⟨fL,mA,[],1⟩]
def aoT:hN (pq r9) CU=0:=ax
def aoU:hN (pq vI) CV=0:=ax
def aoV:(bR r9 0 t1 [] nG).2.1=[([⟨1,7,[]⟩,⟨2,0,[113]⟩],[[(1,[⟨1,7,[]⟩,⟨2,0,[113]⟩])]])]:=ax
def aoW:(bR r9 0 t1 [] nG).2.2.dE=false:=ax
def aoX:(bR vI 0 t2 [] nG).2.1=[]:=ax
def aoY:(bR vI 0 t2 [] nG).2.2.dE=false:=ax
def aoZ:iO (eM t1) [[(1,[⟨1,7,[]⟩,⟨2,0,[113]⟩])]] (eM t1).length=[(fL,1)]:=ax
def Yd{α:Type}(ew:α->α->Int)(a:α):kM ew [a]=[a]:=by unfold kM;exact List.mergeSort_singleton a
def Ye{α:Type}(ew:α->α->Int):kM ew ([]:List α)=[]:=by unfold kM;exact List.mergeSort_nil
def ao0(t:fo):p7 [t]=[t]:=rfl
def Yf(t:fo):hj [[t]]=[t]:=by unfold hj;rw[show([[t]]:List (List fo)).flatten=[t] from rfl,Yd,ao0]
def JH:List l7:=[([⟨#[55]⟩,⟨#[39,113,39]⟩],[(fL,1)])]
def ao1:oK r9 0 (eM t1) t1=some JH:=by unfold oK;rw[aoW,aoV,if_neg K,List.map_cons,List.map_nil];unfold lG;simp only[];rw[aoZ,Yf,Yd];kernel_rfl
def ao2:oK vI 0 (eM t2) t2=some []:=by unfold oK;rw[aoY,aoX,if_neg K,List.map_nil,Ye];rfl
def JI:ni:=⟨⟨r9,0⟩,⟨[],[],0⟩,[],0⟩
def JJ:ni:=⟨⟨vI,0⟩,nh hS 0 [(fL,1)] ⟨[],[],0⟩,[],0⟩
def AT:ni:=⟨⟨vI,0⟩,nh hS 0 [] (nh hS 0 [(fL,1)] ⟨[],[],0⟩),[],0⟩
def Yg{f:qh->n9->Bool}{out:List l7}(h1:¬(cU.data.toList=[]\/jf cU.data.toList=false))(H:hN (pq s.ck.bY) eH=0)(ab:hC eH=some (ts,t))(aK:oK s.ck.bY s.ck.dS (eM t) t=some out)(cO:s.ce.count<60)(cE:s.nj=[]):gE f s cU eH=⟨0,0,out,{s with ce:=nh cU s.ck.dS (hj (out.map (·.2))) s.ce}⟩:=by unfold gE;rw[if_neg h1,if_neg (by rw[H];exact fun h=>h rfl),ab];simp only[];rw[aK];simp only[];rw[if_neg r,cE,if_neg (fun h=>h rfl)]
def ao3:hj []=[]:=by unfold hj;rw[show([]:List (List fo)).flatten=[] from rfl,Ye];rfl
def ao4(f:qh->n9->Bool):gE f JI hS CU=⟨0,0,JH,⟨⟨r9,0⟩,nh hS 0 [(fL,1)] ⟨[],[],0⟩,[],0⟩⟩:=by have h:=Yg (f:=f) (s:=JI) (cU:=hS) K aoT aoR ao1 K rfl;have hu:hj (JH.map (·.2))=[(fL,1)]:=Yf _;rw[hu] at h;exact h
def ao5(f:qh->n9->Bool):gE f JJ hS CV=⟨0,0,[],AT⟩:=by have h:=Yg (f:=f) (s:=JJ) (cU:=hS) K aoU aoS ao2 K rfl;rw[show(([]:List l7).map (·.2))=[] from rfl,ao3] at h;exact h
open Go.RowKit Go.Sort Go.Shelf
def PF{l:e4}(h:w.ownsRow lo 9 1 (.slice a n c) l.length (l.map Value.string))(i:Nat)(hi:i<l.length):∃g,a=some ⟨g,0,none⟩/\g<w.heap.size/\dp w g i=some (.string l[i]):=by obtain⟨nB,e7,e⟩:=cG h;injection e with Y am bm;subst Y am bm;obtain⟨g,e,R⟩:=vA h r;subst e;have bk:=h.cells rfl i (.string l[i]) (by rw[List.getElem?_map,fC hi];rfl);rw[Addr.add_lit,Nat.zero_add] at bk;exact⟨g,rfl,R,bk⟩
def F9{t:TypeId}(h:t=55\/t=9\/t=84\/t=32):¬oM t:=by unfold oM;rcases h with rfl | rfl | rfl | rfl<;>decide
structure ki (W aU:World):Prop where
 size:W.heap.size<=aU.heap.size
 other:∀(k:Nat) (cs:Array Value) (t:TypeId) (m:Nat×Nat),W.heap[k]?=some (.cells cs t m)->¬oM t->aU.heap[k]?=some (.cells cs t m)
def ki.of(h:da F W aU)(hF:∀k,F k->oN W k/\8<=k):ki W aU:=⟨h.size,fun k cs t m e ar=>by
 refine(h.block k (jq e) (fun hk=>?_)).trans e;obtain⟨⟨fU,e6,pQ,bo,Es⟩,_⟩:=hF k hk;rw[e] at bo;injection bo with bo;injection bo with _ bo;exact ar (bo▸Es)⟩
def ki.below(h:Below W.heap.size W aU):ki W aU:=⟨h.size,fun _ _ _ _ e _=>Below.a8 h e⟩
def ki.trans{a b c:World}(h:ki a b)(g:ki b c):ki a c:=⟨bX h.size g.size,fun k cs t m e ar=>g.other k cs t m (h.other k cs t m e ar) ar⟩
def ki.row(h:ki W aU){base:Nat}{e:TypeId}{size:Nat}{xs:List Value}(ar:¬oM e)(ag:W.ownsRow base e size v n xs):aU.ownsRow base e size v n xs:=by
 refine⟨ag.1,?_⟩;rcases ag.2 with aa | ⟨g,af,ay,rfl,X,en,rest⟩
 ·exact .inl aa
 ·exact .inr ⟨g,af,ay,rfl,X,h.other _ _ _ _ en ar,rest⟩
def ki.out{W aU:World}(h:ki W aU){v:Value}{out:List l7}(ct:fW 0 W v out):fW 0 aU v out:=by obtain⟨bE,h1,H,ab⟩:=ct;exact⟨bE,h.row (F9 (.inl rfl)) h1,H,fun i a b=>⟨h.row (F9 (.inr (.inl rfl))) (ab i a b).1,h.row (F9 (.inr (.inr (.inl rfl)))) (ab i a b).2⟩⟩
structure gF (w:World) (b:Nat) (s:ni) (W:World):Prop where
 own:∃F,nH F W b s/\∀k,F k->w.heap.size<=k
 ho:Below w.heap.size w W
 xo:Ground W
def gF.below{w W aU:World}{b:Nat}{s:ni}(h:gF w b s W)(A:Below W.heap.size W aU):gF w b s aU:=by obtain⟨⟨F,h1,H⟩,ab,aK⟩:=h;exact⟨⟨F,h1.aside (G:=fun _=>False) ⟨A.os,A.tape,A.output,A.size,fun k hk _=>A.block k hk⟩ (fun _ _=>id),H⟩,Below.fK ab A,aK.below A⟩
def gF.call(aw:∀k,F k->oN W k/\8<=k)(hF:∀k,F k->w.heap.size<=k)(A:Below w.heap.size w W)(R:Ground W)(bi:vE F W b fu aU):gF w b fu aU/\ki W aU:=by
 obtain⟨F',aI,aZ,a6⟩:=bi;refine⟨⟨⟨F',aI,fun U ae=>?_⟩,⟨a6.os.trans A.os,a6.tape.trans A.tape,a6.output.trans A.output,bX A.size a6.size,fun U ae=>?_⟩,R.anx a6 (fun U ae=>(aw U ae).2)⟩,ki.of a6 aw⟩
 ·rcases aZ U ae with h | h
  ·exact hF U h
  ·exact bX A.size h
 ·exact(a6.block U (e0 ae A.size) (fun x=>by have:=hF U x;omega)).trans (A.block U ae)
def ao6(h:gF w b s W)(ok:hA N s.ck)(name bl:ByteArray)(ar:name.size<=2000000)(ai:bl.size<=2000000):ey 19 #[M b,.string name,.string bl] W fun e aU=>e=.returned (q ((lL s.ck name bl).1:Int))/\Hid (gF w b {s with ck:=(lL s.ck name bl).2} aU/\ki W aU):=by obtain⟨⟨F,h1,H⟩,ab,aK⟩:=h;refine(ant h1 aK.uJ.js ok aK.uJ name bl ar ai).mono ?_;rintro e aU ⟨rfl,bi⟩;exact⟨rfl,u (gF.call h1.1 H ab aK bi)⟩
def Yh(h:gF w b s W)(ok:hA N s.ck)(cS:N<=1000000000)(name:ByteArray)(U af:Nat)(ba:e4)(hv:zG W U ba)(ae:U<W.heap.size)(X:ba.length<=2000000)(hs:∀t∈ba,t.size<=2000000):ey 20 #[M b,.string name,.slice (some ⟨U,0,none⟩) ba.length af] W fun e aU=>e=.returned (.tuple #[q ((mF s.ck name ba).1:Int),q ((mF s.ck name ba).2.1:Int)])/\Hid (gF w b {s with ck:=(mF s.ck name ba).2.2} aU/\ki W aU):=by obtain⟨⟨F,h1,H⟩,ab,aK⟩:=h;refine(anu h1 aK.uJ.js ok cS name U af ba hv ae X hs).mono ?_;rintro e aU ⟨rfl,bi⟩;exact⟨rfl,u (gF.call h1.1 H ab aK bi)⟩
def ao7(h:gF w b s W)(ok:hA N s.ck)(name:ByteArray)(m:Int):ey 21 #[M b,.string name,q m] W fun e aU=>e=.returned (q ((pz s.ck name m).1:Int))/\Hid (gF w b {s with ck:=(pz s.ck name m).2} aU/\ki W aU):=by obtain⟨⟨F,h1,H⟩,ab,aK⟩:=h;refine(anv h1 aK.uJ.js ok name m).mono ?_;rintro e aU ⟨rfl,bi⟩;exact⟨rfl,u (gF.call h1.1 H ab aK bi)⟩
def Yi(h:gF w b s W)(ok:hA N s.ck)(fit:lw s.ck)(cU eH:ByteArray)(hu:cU.size<=1000000)(oE:s.ce.log.length<=10000)(kv:s.ce.ng.length<=800000)(wq:s.ce.count<=1000000)(aj:s.nj=[]):ey 9 #[M b,.string cU,.string eH] W fun e aU=>∃a n c,e=.returned (.tuple #[.agg #[.slice a n c,q ((gE (fun _ _=>false) s cU eH).Jt:Int)],q ((gE (fun _ _=>false) s cU eH).qk:Int)])/\Hid (fW 0 aU (.slice a n c) (gE (fun _ _=>false) s cU eH).out/\gF w b (gE (fun _ _=>false) s cU eH).FX aU/\ki W aU):=by
 obtain⟨⟨F,h1,H⟩,ab,aK⟩:=h;refine(XV (fun _ _=>false) h1 ok fit aK cU eH hu oE kv wq (by rw[aj];exact bu) (fun p AK=>by rw[aj] at AK;cases AK)).mono ?_;rintro e aU ⟨a,n,c,rfl,ct,bi⟩;exact⟨a,n,c,rfl,u ⟨ct,gF.call h1.1 H ab aK bi⟩⟩
def ao8(w:World)(R:Ground w):ey 18 #[] w fun e W=>∃b,e=.returned (M b)/\Hid (gF w b Js W):=by refine(anw w R.uJ.js).mono ?_;rintro e W ⟨k,F,rfl,h1,H,ab⟩;exact⟨k,rfl,u ⟨⟨F,h1,H⟩,ab,R.below ab⟩⟩
def JK(k:Nat):ByteArray:=if 10<=k then JG else im ((k:Int)-3)
def JL(k:Nat):ByteArray:=if k=5 then JG else a7 (39::(([97,98,99,100,101]:List UInt8).take k++[39]))
def ao9:∀k,k<12->(fy (JK k).data.toList).2=true/\((fy (JK k).data.toList).1.kind=0\/(fy (JK k).data.toList).1.kind=1)/\(JK k).size<=30:=by decide +kernel
def apa:∀k,k<6->(fy (JL k).data.toList).2=true/\((fy (JL k).data.toList).1.kind=0\/(fy (JL k).data.toList).1.kind=2)/\(JL k).size<=30:=by decide +kernel
def CW(c:Int):al:=(fy (nk c).data.toList).1
def CX(c:Int):al:=(fy (nl c).data.toList).1
def Yj(c:Int):bS.valOf (nk c)=some (CW c)/\((CW c).kind=0\/(CW c).kind=1)/\(nk c).size<=30:=by have h:=ao9 (qZ c 12) (F7 K).2;refine⟨?_,h.2.1,h.2.2⟩;unfold bS.valOf;have h1:(fy (nk c).data.toList).2=true:=h.1;rw[h1,if_pos rfl];rfl
def Yk(c:Int):bS.valOf (nl c)=some (CX c)/\((CX c).kind=0\/(CX c).kind=2)/\(nl c).size<=30:=by have h:=apa (qZ c 6) (F7 K).2;refine⟨?_,h.2.1,h.2.2⟩;unfold bS.valOf;have h1:(fy (nl c).data.toList).2=true:=h.1;rw[h1,if_pos rfl];rfl
def AU(cD:List (Int×Int)):Nat->je
 | 0=>[]
 | k+1=>AU cD k++[(k+2,[CW (cD.getD k (0,0)).1,CX (cD.getD k (0,0)).2])]
def Yl(cD:List (Int×Int)):∀k,(AU cD k).length=k
 | 0=>rfl
 | k+1=>by rw[AU,cu,Yl cD k];rfl
def uM(cD:List (Int×Int))(k:Nat):hG:=⟨[⟨fL,mA,AU cD k,k+1⟩],0⟩
def mB(cD:List (Int×Int))(k:Nat):ni:=⟨uM cD k,AT.ce,[],0⟩
def Ym(cD:List (Int×Int))(k:Nat)(hk:k<12):mF (uM cD k) fL [nk (cD.getD k (0,0)).1,nl (cD.getD k (0,0)).2]=(k+2,0,uM cD (k+1)):=by
 have av:fD (uM cD k).bY fL=some 0:=by unfold uM fD;rfl
 have bi:od ⟨fL,mA,AU cD k,k+1⟩ [nk (cD.getD k (0,0)).1,nl (cD.getD k (0,0)).2]=(k+2,0,⟨fL,mA,AU cD (k+1),k+2⟩):=by
  obtain⟨bM,b9,_⟩:=Yj (cD.getD k (0,0)).1;obtain⟨J,S,_⟩:=Yk (cD.getD k (0,0)).2;unfold od;rw[if_pos (show [nk (cD.getD k (0,0)).1,nl (cD.getD k (0,0)).2].length=mA.length from rfl)];have ak:iq bS.valOf [nk (cD.getD k (0,0)).1,nl (cD.getD k (0,0)).2]=some [CW (cD.getD k (0,0)).1,CX (cD.getD k (0,0)).2]:=by rw[iq,bM,iq,J,iq];rfl
  rw[ak];have au:q7 [CW (cD.getD k (0,0)).1,CX (cD.getD k (0,0)).2] mA=true:=by unfold mA;rw[q7,q7,q7];rcases b9 with e | e<;>rcases S with bo | bo<;>rw[e,bo]<;>rfl
  simp only[];rw[au,if_pos rfl,if_neg (by rw[Yl];omega)];rfl
 rw[Ht av (by show 0<1;omega)];have R:(uM cD k).bY[0]'(by show 0<1;omega)=⟨fL,mA,AU cD k,k+1⟩:=rfl;rw[R,bi];rfl
def PG(cD:List (Int×Int)):∀k,k<=12->hA (k+1) (uM cD k)/\lw (uM cD k)
 | 0,_=>by
  refine⟨⟨by show 1<=6;omega,fun t au=>?_,by show(0:Int)<=0;omega,by show(0:Int)<=1000000000000;omega⟩,fun t au=>?_⟩
  ·obtain rfl:=ic (show t∈[_] from au);exact⟨by show 1<=2;omega,by show 2<=4;omega,bu,ap,fun c ai=>by
    have k4:c∈mA:=ai;unfold mA at k4;rcases List.mem_cons.1 k4 with rfl | k4
    ·exact .inl rfl
    ·obtain rfl:=ic k4;exact .inr rfl⟩
  ·obtain rfl:=ic (show t∈[_] from au);exact⟨fun C ag=>absurd ag (List.not_mem_nil),(show iP fL.data.toList=true by decide),fun C ag=>absurd ag (List.not_mem_nil)⟩
 | k+1,h=>by obtain⟨h1,H⟩:=PG cD k r;have e:=Ym cD k r;have ab:=h1.insert fL [nk (cD.getD k (0,0)).1,nl (cD.getD k (0,0)).2];have aK:=H.insert fL [nk (cD.getD k (0,0)).1,nl (cD.getD k (0,0)).2];rw[e] at ab aK;exact⟨ab,aK⟩
def CY(w:World)(v:Value)(l:List (Int×Int)):Prop:=(∃a af,v=.slice a l.length af/\(l=[]\/∃g off,a=some ⟨g,off,none⟩/\g<w.heap.size/\∀i (h:i<l.length),dp w g (off+i*2)=some (q l[i].1)/\dp w g (off+i*2+1)=some (q l[i].2)))/\l.length<=1048576/\∀x∈l,-9223372036854775808<=x.1/\x.1<=9223372036854775807/\-9223372036854775808<=x.2/\x.2<=9223372036854775807
def SJ(t:fo):List UInt8:=t.1.data.toList++[32]++(im t.2).data.toList++[44]
def C5(v:ByteArray):List UInt8:=v.data.toList++[44]
def Nj(C:l7):List UInt8:=[59]++C.1.flatMap C5++[60]++C.2.flatMap SJ
def UO(e aq:Int)(out:List l7):List UInt8:=(im e).data.toList++[58]++(im aq).data.toList++out.flatMap Nj
structure VL (out:List l7):Prop where
 vc:out.length<=100000
 ba:∀C∈out,C.1.length<=5000/\∀v∈C.1,v.size<=1000
 atX:∀C∈out,C.2.length<=100000/\∀t∈C.2,t.1.size<=1000/\-1000000000000000<=t.2/\t.2<=1000000000000000
def ajW{α:Type}(f:α->List UInt8)(l:List α)(k:Nat)(h:k<l.length):(l.take (k+1)).flatMap f=(l.take k).flatMap f++f l[k]:=by rw[jD h,List.flatMap_append];simp
def JO(a b:ByteArray):(a++b).data.toList=a.data.toList++b.data.toList:=by rw[ByteArray.data_append,Array.toList_append]
def JY(a b:ByteArray):(a++b).size=a.size+b.size:=by rw[ByteArray.size_append]
def uP(i:Nat):Nat:=100+i*200000000
def atY:uP 0=100:=by unfold uP;omega
def atZ(i:Nat):uP (i+1)=uP i+200000000:=by unfold uP;omega
def at1(h:i<=100000):uP i<=100000000000000:=by unfold uP;omega
def apg(b0:Value)(aq e:Int)(out:List l7)(w:World)(h:fW 0 w b0 out)(sm:VL out)(o6 : -1000000000000000<=aq)(yx:aq<=1000000000000000)(nr : -1000000000000000<=e)(re:e<=1000000000000000):ey 10 #[.agg #[b0,q aq],q e] w fun x w'=>x=.returned (.string (a7 (UO e aq out)))/\Below w.heap.size w w':=by
 obtain⟨bE,ag,mn,CL⟩:=h;obtain⟨eL,rc,rfl⟩:=cG ag;have iD:Below w.heap.size w (w.alloc (.cells #[.slice eL bE.length rc,q aq] 32)):=cT;have aT:=bH w (.cells #[.slice eL bE.length rc,q aq] 32);have e9:Hid (∀i (hi:i<bE.length) (ct:i<out.length),∃ov sy g aC c6 bA bt aX bD,out[i]=(ov,sy)/\eL=some ⟨g,0,none⟩/\g<w.heap.size/\(∀W,Below w.heap.size w W->dp W g (i*2)=some (.slice aC c6 bA)/\dp W g (i*2+1)=some (.slice bt aX bD))/\c6=ov.length/\aX=sy.length/\(∀k (hk:k<ov.length),∃U,aC=some ⟨U,0,none⟩/\U<w.heap.size/\∀aU,Below w.heap.size w aU->dp aU U k=some (.string (ov[k])))/\(∀k (hk:k<sy.length),∃U,bt=some ⟨U,0,none⟩/\U<w.heap.size/\∀aU,Below w.heap.size w aU->dp aU U (k*2)=some (.string (sy[k]).1)/\dp aU U (k*2+1)=some (q (sy[k]).2))):=u (fun i hi ct=>by
  obtain⟨g,eX,R,bk,c1⟩:=Ps ag i hi;obtain⟨aI,aZ⟩:=CL i hi ct;obtain⟨aC,bA,Y⟩:=cG aI;obtain⟨bt,bD,am⟩:=cG aZ;rw[Y] at bk aI;rw[am] at c1 aZ;refine⟨out[i].1,out[i].2,g,aC,_,bA,bt,_,bD,rfl,eX,R,fun W A=>⟨(A.cell (p:=⟨g,i*2,none⟩) R).trans bk,(A.cell (p:=⟨g,i*2+1,none⟩) R).trans c1⟩,rfl,rfl,fun k hk=>?_,fun k hk=>?_⟩
  ·obtain⟨U,eq,ae,ajX⟩:=PF aI k hk;exact⟨U,eq,ae,fun aU bg=>(bg.cell (p:=⟨U,k,none⟩) ae).trans ajX⟩
  ·obtain⟨U,eq,ae,ajX,auA⟩:=XI aZ k hk;exact⟨U,eq,ae,fun aU bg=>⟨(bg.cell (p:=⟨U,k*2,none⟩) ae).trans ajX,(bg.cell (p:=⟨U,k*2+1,none⟩) ae).trans auA⟩⟩)
 have Ag:=u sm;have auB:=u mn;have anc:bE.length<=100000:=by have:=sm.vc;omega
 have ht:=u (fun W=>JF aq W r r);have bK:=u (fun W=>JF e W r r);have C1:Hid ((im aq).size<=30/\(im e).size<=30):=u ⟨Ik aq r r,Ik e r r⟩;have wN:Hid (a7 (UO e aq out)=a7 ((im e).data.toList++[58]++(im aq).data.toList++(out.take bE.length).flatMap Nj)):=u (by unfold UO;rw[mn,List.take_length]);generalize a7 (UO e aq out)=gh at *;clear ag CL sm o6 yx nr re mn;go_enter func10,ntmps10;go_upto_region 1 with fail;generalize w.alloc (.cells #[.slice eL bE.length rc,q aq] 32)=hz at *;have my:=u iD;have rG:Hid (∀W,Below hz.heap.size hz W->dp W w.heap.size 0=some (.slice eL bE.length rc)/\dp W w.heap.size 1=some (q aq)):=u (fun W A=>by
  have k:=(A.block _ (br aT).1).trans aT;exact⟨Z k (i:=0) rfl,Z k (i:=1) rfl⟩)
 clear aT iD;have ajY:Hid ((im e++(⟨#[58]⟩:ByteArray)++im aq).data.toList=(im e).data.toList++[58]++(im aq).data.toList/\(im e++(⟨#[58]⟩:ByteArray)++im aq).size<=100):=u (by
  refine⟨by rw[JO,JO],?_⟩;have h1:=C1.out;have H:(⟨#[58]⟩:ByteArray).size=1:=rfl;rw[JY,JY];omega)
 obtain⟨auC,auD⟩:=C1.out;have q1:¬9223372036854775807<(im e).size+1:=r;have bN:¬9223372036854775807<(im e).size+1+(im aq).size:=r;have JP:Hid (ey 13 #[q e] hz.drew fun x J=>x=.returned (.string (im e))/\(dp J w.heap.size 0=some (.slice eL bE.length rc)/\dp J w.heap.size 1=some (q aq))/\Hid (Below hz.heap.size hz J)):=u ((bK.out hz.drew).mono (by
  rintro x J ⟨rfl,A⟩;have bg:Below hz.heap.size hz J:=Below.fK (show Below hz.heap.size hz hz.drew from⟨rfl,rfl,rfl,ap,fun _ _=>rfl⟩) A;exact⟨rfl,rG.out J bg,u bg⟩))
 have ET:Hid (∀W,Below hz.heap.size hz W->ey 13 #[q aq] W fun x S=>x=.returned (.string (im aq))/\(dp S w.heap.size 0=some (.slice eL bE.length rc)/\dp S w.heap.size 1=some (q aq))/\Hid (Below hz.heap.size hz S)):=u (fun W h=>(ht.out W).mono (by
  rintro x S ⟨rfl,A⟩;have bg:=Below.fK h A;exact⟨rfl,rG.out S bg,u bg⟩))
 obtain⟨dN,bz⟩:=rG.out hz (Below.refl _ _);generalize im e=YC at *;generalize im aq=YD at *;clear auC auD;go_region_held3 (fun w'=>w'.cell? ⟨w.heap.size,0,none⟩=some (.slice eL bE.length rc)/\w'.cell? ⟨w.heap.size,1,none⟩=some (q aq)) (go_keep) (first | (go_at_call 13;refine(ET.out J jd.out).mono ?_;rintro x S ⟨rfl,⟨hr,cN⟩,kh⟩) | (go_at_call 13;refine JP.out.mono ?_;rintro x J ⟨rfl,⟨a0,bq⟩,jd⟩));clear dN bz a0 bq q1 bN hr cN;have auE:Hid ((YC++(⟨#[58]⟩:ByteArray)++YD).data.toList=YC.data.toList++[58]++YD.data.toList):=u ajY.out.1;have auL:Hid ((YC++(⟨#[58]⟩:ByteArray)++YD).size<=100):=u ajY.out.2;generalize YC++(⟨#[58]⟩:ByteArray)++YD=k5 at *;generalize YC.data.toList++[58]++YD.data.toList=YX at *;have gS:Hid (Below w.heap.size w S):=u (Below.fK my.out kh.out)
 have aph:Hid (∀W,Below S.heap.size S W->dp W w.heap.size 0=some (.slice eL bE.length rc)):=u (fun W A=>(rG.out W (Below.fK kh.out A)).1);clear ajY ET JP rG ht bK C1;go_upto_region 3 with fail;go_loopg [5,6,7,8] (bE.length+1) (fun U sv uN hI bv wr=>∃(i:Nat) (s:ByteArray),i<=bE.length/\uN=q (i:Int)/\sv=.string s/\Hid (s.data.toList=YX++(out.take i).flatMap Nj)/\Hid (s.size<=uP i)/\Hid (Below S.heap.size S wr)/\bE.length-i<U);case atStart=>exact⟨0,k5,bu,rfl,rfl,u (by rw[auE.out];simp),u (by have:=auL.out;rw[atY];exact this),u (Below.refl _ _),r⟩
 case round=>
  obtain⟨i,s,hi,rfl,rfl,dV,ep,bc,ae⟩:=hrel;by_cases aD:i<bE.length
  ·have cL:(i:Int)<(bE.length:Int):=r;have ct:i<out.length:=by have:=auB.out;omega
   have D0:uP i<=100000000000000:=at1 r;have auO:Hid (uP (i+1)=uP i+200000000):=u (atZ i);have hK:Below w.heap.size w wr:=Below.fK gS.out bc.out;obtain⟨ov,sy,g,aC,c6,bA,bt,aX,bD,YY,rfl,R,j2,apr,FK,apt,apu⟩:=e9.out i aD ct;have oD:Hid (∀W,Below S.heap.size S W->dp W w.heap.size 0=some (.slice (some ⟨g,0,none⟩) bE.length rc)/\dp W g (i*2)=some (.slice aC c6 bA)/\dp W g (i*2+1)=some (.slice bt aX bD)):=u (fun W A=>⟨aph.out W A,j2 W (Below.fK gS.out A)⟩);obtain⟨apv,apw⟩:ov.length<=5000/\∀v∈ov,v.size<=1000:=by have:=Ag.out.ba _ (ec ct);rw[YY] at this;exact this
   obtain⟨apH,apI⟩:sy.length<=100000/\∀t∈sy,t.1.size<=1000/\-1000000000000000<=t.2/\t.2<=1000000000000000:=by have:=Ag.out.atX _ (ec ct);rw[YY] at this;exact this
   have IY:Hid (∀W,Below S.heap.size S W->∀k (hk:k<c6) (gi:k<ov.length),∃U,aC=some ⟨U,0,none⟩/\dp W U k=some (.string (ov[k]))):=u (fun W A k hk gi=>by
    obtain⟨U,e,_,h⟩:=apt k gi;exact⟨U,e,h W (Below.fK gS.out A)⟩)
   have Jv:Hid (∀k (gi:k<sy.length),∃U,bt=some ⟨U,0,none⟩/\∀W,Below S.heap.size S W->dp W U (k*2)=some (.string (sy[k]).1)/\dp W U (k*2+1)=some (q (sy[k]).2)):=u (fun k gi=>by
    obtain⟨U,e,_,h⟩:=apu k gi;exact⟨U,e,fun W A=>h W (Below.fK gS.out A)⟩)
   have au7:Hid ((out.take (i+1)).flatMap Nj=(out.take i).flatMap Nj++([59]++ov.flatMap C5++[60]++sy.flatMap SJ)):=u (by have:=ajW Nj out i ct;rw[YY] at this;exact this);have aej:IntKind.i64.wrap ((i:Int)+1)=(i:Int)+1:=mC;have fb:=u apr;have dy:=u FK;have apJ:=u (And.intro apv (And.intro apw (And.intro apH apI)));have Vo:c6<=5000:=r;have lX:aX<=100000:=r;clear apr FK apt apu j2 YY apv apw apH apI e9 R;have b3:¬9223372036854775807<s.size+1:=by have:=ep.out;omega
   have apK:Hid ((s++(⟨#[59]⟩:ByteArray)).data.toList=YX++(out.take i).flatMap Nj++[59]):=u (by rw[JO,dV.out]);have Jo:Hid ((s++(⟨#[59]⟩:ByteArray)).size<=uP i+1):=u (by have:=ep.out;have e:(⟨#[59]⟩:ByteArray).size=1:=rfl;rw[JY,e];omega);obtain⟨bk,c1,c2⟩:=oD.out wr bc.out;have ch:=u ae;have vy:=u aD;clear ae dV ep aD ct hK;go_upto_block 2 with fail;generalize s++(⟨#[59]⟩:ByteArray)=ha at *;generalize ap7:YX++(out.take i).flatMap Nj++[59]=yM at *;have ava:=u ap7;clear ap7;clear bk c1 c2;obtain⟨FR,rfl⟩:∃x,x=gk:=⟨_,rfl⟩;obtain⟨ih,rfl⟩:∃x,x=wr:=⟨_,rfl⟩;go_cut [5,7] (fun sv gr wc=>∃s:ByteArray,sv=.string s/\Hid (s.data.toList=yM++ov.flatMap C5)/\Hid (s.size<=uP i+5005001)/\wc=ih);case first=>
    as_aux_lemma=>
     go_wp2_with fail;go_loopg [5,7] (c6+1) (fun U sv gr wk=>∃(k:Nat) (s:ByteArray),k<=c6/\gr=q (k:Int)/\sv=.string s/\Hid (s.data.toList=yM++(ov.take k).flatMap C5)/\Hid (s.size<=uP i+1+k*1001)/\wk=ih/\c6-k<U);case atStart=>exact⟨0,ha,bu,rfl,rfl,u (by rw[apK.out];simp),u (by have:=Jo.out;omega),rfl,r⟩
     case round=>
      obtain⟨k,s,hk,rfl,rfl,dV,ep,rfl,ae⟩:=hrel;obtain⟨bk,c1,c2⟩:=oD.out _ bc.out;have Jm:=vy.out;have fM:(i:Int)<(bE.length:Int):=r;by_cases jl:k<c6
      ·have JR:(k:Int)<(c6:Int):=r;have Y3:k<ov.length:=by have:=fb.out;omega
       obtain⟨U,rfl,fl⟩:=IY.out _ bc.out k jl Y3;have Cx:=apJ.out.2.1 _ (ec Y3);have mo:Hid ((ov.take (k+1)).flatMap C5=(ov.take k).flatMap C5++(ov[k].data.toList++[44])):=u (ajW C5 ov k Y3);have sU:IntKind.i64.wrap ((k:Int)+1)=(k:Int)+1:=mC;generalize ov[k]=ach at *;have z2:¬9223372036854775807<s.size+ach.size:=by have:=ep.out;omega
       have z3:¬9223372036854775807<s.size+ach.size+1:=by have:=ep.out;omega
       have YZ:Hid ((s++ach++(⟨#[44]⟩:ByteArray)).data.toList=yM++(ov.take (k+1)).flatMap C5):=u (by rw[mo.out,JO,JO,dV.out];simp);have eS:Hid ((s++ach++(⟨#[44]⟩:ByteArray)).size<=uP i+1+(k+1)*1001):=u (by have:=ep.out;have e:(⟨#[44]⟩:ByteArray).size=1:=rfl;rw[JY,JY,e];omega);have wY:=u ae;clear ae dV ep Cx Y3;go_wp2_with fail;have ae:=wY.out;go_roundg (gk-1);case measure=>omega
       case rel=>exact⟨k+1,_,r,by go_num,rfl,YZ,eS,rfl,r⟩
      ·have vq:k=c6:=r;subst vq;have JR:(k:Int)<=(k:Int):=r;have oG:Hid (s.data.toList=yM++ov.flatMap C5):=u (by rw[dV.out,fb.out,List.take_length]);have aqa:Hid (s.size<=uP i+5005001):=u (by have:=ep.out;omega);clear dV ep ae;go_wp2_with fail;go_meet;case rel=>exact⟨s,rfl,oG,aqa,rfl⟩
   case rest=>
    obtain⟨s2,rfl,dV,ep,uj⟩:=hcut;subst uj;clear apK Jo IY b3;have oG:Hid ((s2++(⟨#[60]⟩:ByteArray)).data.toList=yM++ov.flatMap C5++[60]):=u (by rw[JO,dV.out]);have aqa:Hid ((s2++(⟨#[60]⟩:ByteArray)).size<=uP i+5005002):=u (by have:=ep.out;have e:(⟨#[60]⟩:ByteArray).size=1:=rfl;rw[JY,e];omega);have z4:¬9223372036854775807<s2.size+1:=by have:=ep.out;omega
    clear dV ep;go_upto_block 4 with fail;generalize s2++(⟨#[60]⟩:ByteArray)=jJ at *;go_wp2_with fail;go_loopg [5,8] (aX+1) (fun U sv gr wk=>∃(m:Nat) (s:ByteArray),m<=aX/\gr=q (m:Int)/\sv=.string s/\Hid (s.data.toList=yM++ov.flatMap C5++[60]++(sy.take m).flatMap SJ)/\Hid (s.size<=uP i+5005002+m*1040)/\Hid (Below S.heap.size S wk)/\aX-m<U);case atStart=>exact⟨0,jJ,bu,rfl,rfl,u (by rw[oG.out];simp),u (by have:=aqa.out;omega),bc,r⟩
    case round=>
     obtain⟨m,dd,hm,rfl,rfl,dV,ep,pB,ae⟩:=hrel;obtain⟨bk,c1,c2⟩:=oD.out _ pB.out;have Jm:=vy.out;have fM:(i:Int)<(bE.length:Int):=r;by_cases wG:m<aX
     ·have avb:(m:Int)<(aX:Int):=r;have acn:m<sy.length:=by have:=dy.out;omega
      obtain⟨U,rfl,vm⟩:=Jv.out m acn;obtain⟨ap8,ap9,aqb⟩:=apJ.out.2.2.2 _ (ec acn);have mo:Hid ((sy.take (m+1)).flatMap SJ=(sy.take m).flatMap SJ++(sy[m].1.data.toList++[32]++(im sy[m].2).data.toList++[44])):=u (ajW SJ sy m acn);have axh:IntKind.i64.wrap ((m:Int)+1)=(m:Int)+1:=mC;generalize sy[m]=T at *;obtain⟨kt,kV⟩:=T;simp only[] at vm ap8 ap9 aqb mo;have ID:Hid (∀W,Below S.heap.size S W->(dp W w.heap.size 0=some (.slice (some ⟨g,0,none⟩) bE.length rc)/\dp W g (i*2+1)=some (.slice (some ⟨U,0,none⟩) aX bD)/\dp W U (m*2)=some (.string kt)/\dp W U (m*2+1)=some (q kV))):=u (fun W A=>⟨(oD.out W A).1,(oD.out W A).2.2,vm W A⟩)
      have vS:Hid (ey 13 #[q kV] wr.drew fun x bh=>x=.returned (.string (im kV))/\(dp bh w.heap.size 0=some (.slice (some ⟨g,0,none⟩) bE.length rc)/\dp bh g (i*2+1)=some (.slice (some ⟨U,0,none⟩) aX bD)/\dp bh U (m*2)=some (.string kt)/\dp bh U (m*2+1)=some (q kV))/\Hid (Below S.heap.size S bh)):=u ((JF kV wr.drew r r).mono (by
       rintro x bh ⟨rfl,A⟩;have iR:Below S.heap.size S bh:=Below.fK (Below.fK pB.out (show Below wr.heap.size wr wr.drew from⟨rfl,rfl,rfl,ap,fun _ _=>rfl⟩)) A;exact⟨rfl,ID.out bh iR,u iR⟩))
      have BA:=Ik kV r r;generalize im kV=adx at *;have z5:¬9223372036854775807<dd.size+kt.size:=by have:=ep.out;omega
      have R9:¬9223372036854775807<dd.size+kt.size+1:=by have:=ep.out;omega
      have DJ:¬9223372036854775807<dd.size+kt.size+1+adx.size:=by have:=ep.out;omega
      have acY:¬9223372036854775807<dd.size+kt.size+1+adx.size+1:=by have:=ep.out;omega
      have YZ:Hid ((dd++kt++(⟨#[32]⟩:ByteArray)++adx++(⟨#[44]⟩:ByteArray)).data.toList=yM++ov.flatMap C5++[60]++(sy.take (m+1)).flatMap SJ):=u (by rw[mo.out,JO,JO,JO,JO,dV.out];simp);have eS:Hid ((dd++kt++(⟨#[32]⟩:ByteArray)++adx++(⟨#[44]⟩:ByteArray)).size<=uP i+5005002+(m+1)*1040):=u (by have:=ep.out;have e:(⟨#[44]⟩:ByteArray).size=1:=rfl;have am:(⟨#[32]⟩:ByteArray).size=1:=rfl;rw[JY,JY,JY,JY,e,am];omega);obtain⟨d0,d1,d2,d3⟩:=ID.out wr pB.out;have avc:=u ae;clear ae dV ep acn ap8 ap9 aqb BA vm bk c1 c2;go_upto_region 14 with fail
      go_region_held3 (fun w'=>w'.cell? ⟨w.heap.size,0,none⟩=some (.slice (some ⟨g,0,none⟩) bE.length rc)/\w'.cell? ⟨g,i*2+1,none⟩=some (.slice (some ⟨U,0,none⟩) aX bD)/\w'.cell? ⟨U,m*2,none⟩=some (.string kt)/\w'.cell? ⟨U,m*2+1,none⟩=some (q kV)) (go_keep) (first | (go_at_call 13;refine vS.out.mono ?_;rintro x bh ⟨rfl,⟨f0,f1,f2,f3⟩,F4⟩));all_goals
       clear d0 d1 d2 d3 f0 f1 f2 f3;go_wp2_with fail;have ae:=avc.out;go_roundg (gk-1);case measure=>omega
       case rel=>exact⟨m+1,_,r,by go_num,rfl,YZ,eS,F4,r⟩
     ·have avd:m=aX:=r;subst avd;have avb:(m:Int)<=(m:Int):=r;have x9:Hid (dd.data.toList=YX++(out.take (i+1)).flatMap Nj):=u (by
       rw[dV.out,dy.out,List.take_length,au7.out,<-ava.out];simp)
      have Xg:Hid (dd.size<=uP (i+1)):=u (by have:=ep.out;have:=auO.out;omega);have avk:=pB;clear dV ep ae pB;go_wp2_with fail;have ae:=ch.out;go_roundg (FR-1);case measure=>omega
      case rel=>exact⟨i+1,_,r,by go_num,rfl,x9,Xg,avk,r⟩
  ·have eZ:i=bE.length:=r;subst eZ;have cL:(bE.length:Int)<=(bE.length:Int):=r;have cK:Hid (gh=s):=u (by rw[wN.out,<-dV.out];rfl);have aT:=aph.out wr bc.out;have avq:Hid (Below w.heap.size w wr):=u (Below.fK gS.out bc.out);clear ae dV ep bc;go_wp2_with fail;go_ret;exact⟨by rw[cK.out];rfl,avq.out⟩
def atc{V:lh}{aG:ez}{t:fo}(h:t∈hP V aG i):(t.1=⟨#[]⟩\/∃s∈V,t.1=s.1)/\(t.2=0\/∃c∈aG,∃C∈c,t.2=(C.1:Int)):=by
 unfold hP at h;obtain⟨c,ai,rfl⟩:=List.mem_map.1 h;refine⟨?_,?_⟩
 ·by_cases hi:i<V.length
  ·refine .inr ⟨V[i],ec hi,?_⟩;show(V.getD i _).1=_;rw[List.getD_eq_getElem?_getD,fC hi];rfl
  ·left;show(V.getD i _).1=_;rw[List.getD_eq_getElem?_getD,List.getElem?_eq_none r];rfl
 ·by_cases hi:i<c.length
  ·refine .inr ⟨c,ai,c[i],ec hi,?_⟩;show(((c.getD i _).1:Nat):Int)=_;rw[List.getD_eq_getElem?_getD,fC hi];rfl
  ·left;show(((c.getD i _).1:Nat):Int)=_;rw[List.getD_eq_getElem?_getD,List.getElem?_eq_none r];rfl
def avt(ok:hA N g)(fit:lw g)(cS:N<=1000000000)(hrel:oJ td g.bY){out:List l7}(ae:hN td eH=0)(ag:hC eH=some (ts,t))(ak:oK g.bY g.dS (eM t) t=some out):VL out:=by
 obtain⟨ko,CS,_,⟨e,wh,il,hv,r7⟩,iu⟩:=PA ae ag;have bi:=fit.B ok;have bM : -1000000000000<=g.dS:=by have:=ok.zN;omega
 have ajZ:aJ (.query e (eM t) wh il hv) 2:=by rw[<-r7];exact ko
 have aqm:mr (.query e (eM t) wh il hv):=by rw[<-r7];exact CS
 have y7:oK g.bY g.dS (eM t) (.query e (eM t) wh il hv)=some out:=by rw[<-r7];exact ak
 obtain⟨cN,bL,_⟩:=XG bi bM ok.ya ajZ aqm iu y7;obtain⟨b1,_⟩:=Pm bi bM ok.ya ajZ aqm [] (E:=[]) (st:=nG) (m:=0) (by trivial) ⟨bu,fun _=>bu⟩;have gA:=(UQ (P:=fun C=>C.1<=1000000000) (B:=g.bY) (fun s C ag=>by
  rcases L4 g.bY s with⟨aw,_⟩ | ⟨iy,lX,aw,_⟩
  ·rw[aw] at ag;cases ag
  ·rw[aw] at ag;have:=(fit iy lX).num C ag;have:=(ok.B iy lX).last;omega) g.dS (.query e (eM t) wh il hv) [] nG ⟨fun C ag=>(by cases ag),fun c ai=>(by cases ai)⟩).1
 have aqc:∀s∈eM t,s.1.size<=6:=by
  have ut:eh td [] t=true:=by
   unfold hN at ae;split at ae
   ·rename_i h;exact absurd ae h
   ·rw[ag] at ae;have zb:pj td t=0:=ae;unfold pj at zb;split at zb
    ·rename_i h;exact h
    ·cases zb
  rw[r7,eh,Bool.and_eq_true] at ut;cases aa:hd td [] (eM t) with
  | none=>rw[aa] at ut;exact absurd ut.2 (by simp)
  | some bU=>obtain⟨_,_,ab,_⟩:=Jc hrel (eM t) [] bU aa;intro s hs;obtain⟨i,hi⟩:=ab s hs;obtain⟨X,ar⟩:=W5 hi;have:=(fit _ (ec X)).name;rw[ar] at this;unfold iP at this;have cE:s.1.data.toList.length<=6:=of_decide_eq_true (Bool.and_eq_true_iff.1 this).2;rw[Array.length_toList] at cE;exact cE
 unfold oK at y7;split at y7
 ·cases y7
 obtain rfl:=bx y7;have key:∀C∈(kM pg ((bR g.bY g.dS (.query e (eM t) wh il hv) [] nG).2.1.map (lG (eM t)))).map nF,∃x∈(bR g.bY g.dS (.query e (eM t) wh il hv) [] nG).2.1,C=nF (lG (eM t) x):=fun C ag=>by obtain⟨a,ak,rfl⟩:=List.mem_map.1 ag;obtain⟨x,aa,rfl⟩:=List.mem_map.1 ((sS pg _).mem_iff.1 ak);exact⟨x,aa,rfl⟩
 refine⟨r,fun C ag=>?_,fun C ag=>?_⟩
 ·obtain⟨x,aa,rfl⟩:=key C ag;have kc:=b1 x aa;obtain⟨_,_,_,cO,_⟩:=id ajZ;refine⟨?_,fun v hv=>?_⟩
  ·show(x.1.map _).length<=5000;rw[cZ,kc.len];exact cO
  ·obtain⟨y,cn,rfl⟩:=List.mem_map.1 (show v∈x.1.map _ from hv);have:=OE (kc.ba y cn);show((iI y).toArray).size<=1000;simp only[List.size_toArray];omega
 ·obtain⟨x,aa,rfl⟩:=key C ag;have qK:=gA x aa;have kc:=b1 x aa;refine⟨?_,fun e6 vg=>?_⟩
  ·have h1:(lG (eM t) x).2.length<=(eM t).length*x.2.length:=by unfold lG;refine bX (Pv _) ?_;rw[List.flatten_cons,List.flatten_nil,List.append_nil,CG];exact ap
   have H:(eM t).length*x.2.length<=3*20000:=Nat.mul_le_mul iu kc.vc;show(lG (eM t) x).2.length<=100000;omega
  ·have hm:=(apo [iO (eM t) x.2 (eM t).length]).2.1 e6 vg;rw[List.flatten_cons,List.flatten_nil,List.append_nil] at hm;unfold iO at hm;obtain⟨i,_,hm⟩:=List.mem_flatMap.1 hm;obtain⟨m1,m2⟩:=atc hm;refine⟨?_,?_⟩
   ·rcases m1 with m1 | ⟨s,hs,m1⟩
    ·rw[m1];show 0<=1000;omega
    ·rw[m1];have:=aqc s hs;omega
   ·rcases m2 with m2 | ⟨c,ai,lK,tw,m2⟩
    ·rw[m2];exact⟨r,r⟩
    ·have:=qK c ai lK tw;rw[m2];simp only[] at this;exact⟨r,r⟩
def ave{s:List UInt8}(h:iP s=true):jf s=true:=by unfold iP yU at h;simp only[Bool.and_eq_true,decide_eq_true_eq] at h;unfold jf;rw[Bool.and_eq_true];exact⟨List.all_eq_true.2 fun c ai=>by rw[List.all_eq_true.1 h.1.1.1 c ai];rfl,decide_eq_true r⟩
def Yr(iy:bG):List fo:=[(⟨#[]⟩:ByteArray),iy.name].flatMap fun n=>(0::iy.ad.map fun C=>(C.1:Int)).map fun k=>(n,k)
def avf(iy:bG):(Yr iy).length=2*(iy.ad.length+1):=by unfold Yr;simp;omega
def avg{t:fo}(h1:t.1=⟨#[]⟩\/t.1=iy.name)(H:t.2=0\/∃C∈iy.ad,t.2=(C.1:Int)):t∈Yr iy:=by
 unfold Yr;obtain⟨a,b⟩:=t;refine List.mem_flatMap.2 ⟨a,?_,List.mem_map.2 ⟨b,?_,rfl⟩⟩
 ·rcases h1 with rfl | rfl<;>simp
 ·rcases H with rfl | ⟨C,ag,rfl⟩
  ·simp
  ·exact List.mem_cons_of_mem _ (List.mem_map.2 ⟨C,ag,rfl⟩)
def avh(au:s.ck.bY=[iy])(ok:hA N s.ck)(fit:lw s.ck)(h:apq s cU eH j):∃ts,j=nh cU s.ck.dS ts s.ce/\s.ce.count<60/\jf cU.data.toList=true/\ts.length<=2*(iy.ad.length+1)/\∀t∈ts,t∈Yr iy:=by
 obtain⟨td,avZ,t,out,hrel,ae,ag,ak,ai,hw,rfl⟩:=h;refine⟨_,rfl,ai,hw,?_⟩;have key:∀x∈(out.map (·.2)).flatten,x∈Yr iy:=by
  obtain⟨ko,CS,_,⟨e,wh,il,hv,r7⟩,iu⟩:=PA ae ag;have bi:=fit.B ok;have bM : -1000000000000<=s.ck.dS:=by have:=ok.zN;omega
  have gA:=(UQ (P:=fun C=>C∈iy.ad) (B:=s.ck.bY) (fun fu C ag=>by
   rcases L4 s.ck.bY fu with⟨aw,_⟩ | ⟨av0,lX,aw,_⟩
   ·rw[aw] at ag;cases ag
   ·rw[aw] at ag;rw[au] at lX;obtain rfl:=ic lX;exact ag) s.ck.dS (.query e (eM t) wh il hv) [] nG ⟨fun C ag=>(by cases ag),fun c ai=>(by cases ai)⟩).1
  have aqc:∀fu∈eM t,fu.1=iy.name:=by
   have ut:eh td [] t=true:=by
    unfold hN at ae;split at ae
    ·rename_i h;exact absurd ae h
    ·rw[ag] at ae;have zb:pj td t=0:=ae;unfold pj at zb;split at zb
     ·rename_i h;exact h
     ·cases zb
   rw[r7,eh,Bool.and_eq_true] at ut;cases aa:hd td [] (eM t) with
   | none=>rw[aa] at ut;exact absurd ut.2 (by simp)
   | some bU=>
    obtain⟨_,_,ab,_⟩:=Jc hrel (eM t) [] bU aa;intro fu hs;obtain⟨i,hi⟩:=ab fu hs;obtain⟨X,ar⟩:=W5 hi;have tZ:∀x∈s.ck.bY,x=iy:=by rw[au];intro x aa;exact ic aa
    rw[<-ar];exact congrArg bG.name (tZ _ (ec X))
  have y7:oK s.ck.bY s.ck.dS (eM t) (.query e (eM t) wh il hv)=some out:=by rw[<-r7];exact ak
  unfold oK at y7;split at y7
  ·cases y7
  obtain rfl:=bx y7;intro x aa;obtain⟨l,X,mI⟩:=List.mem_flatten.1 aa;obtain⟨o,ct,rfl⟩:=List.mem_map.1 X;obtain⟨a,avi,rfl⟩:=List.mem_map.1 ct;obtain⟨y,cn,rfl⟩:=List.mem_map.1 ((sS pg _).mem_iff.1 avi);have hm:=(apo [iO (eM t) y.2 (eM t).length]).2.1 x mI;rw[List.flatten_cons,List.flatten_nil,List.append_nil] at hm;unfold iO at hm;obtain⟨i,_,hm⟩:=List.mem_flatMap.1 hm;obtain⟨m1,m2⟩:=atc hm;refine avg ?_ ?_
  ·rcases m1 with m1 | ⟨fu,hs,m1⟩
   ·exact .inl m1
   ·exact .inr (m1.trans (aqc fu hs))
  ·rcases m2 with m2 | ⟨c,k4,lK,tw,m2⟩
   ·exact .inl m2
   ·exact .inr ⟨lK,gA y cn c k4 lK tw,m2⟩
 refine⟨?_,fun x aa=>key x ((apo _).2.1 x aa)⟩;rw[<-avf];exact(apo (out.map (·.2))).2.2 (Yr iy) key
def apA(au:s.ck.bY=[iy])(ok:hA N s.ck)(fit:lw s.ck)(cS:N<=1000000000)(aS:JW s.ce)(h:apq s cU eH j):JW j:=by
 obtain⟨ts,rfl,ai,hw,X,hm⟩:=avh au ok fit h;have nT:iy∈s.ck.bY:=by rw[au];exact List.mem_singleton.2 rfl
 have yY:=(ok.B iy nT).Ea;have bM : -1000000000000<=s.ck.dS:=by have:=ok.zN;omega
 refine aS.with ai hw bM ok.ya r (fun t vg=>?_);have:=hm t vg;unfold Yr at this;obtain⟨a,ak,H⟩:=List.mem_flatMap.1 this;obtain⟨b,A,rfl⟩:=List.mem_map.1 H;refine⟨?_,?_⟩
 ·rcases List.mem_cons.1 ak with rfl | ak
  ·show jf []=true;decide
  ·obtain rfl:=ic ak;exact ave (fit iy nT).name
 ·rcases List.mem_cons.1 A with rfl | A
  ·show(-1000000000000:Int)<=0/\(0:Int)<=1000000000000;omega
  ·obtain⟨C,ag,rfl⟩:=List.mem_map.1 A;have:=(fit iy nT).num C ag;have:=(ok.B iy nT).last;show -1000000000000<=((C.1:Nat):Int)/\((C.1:Nat):Int)<=1000000000000;omega
def vE.later(A:Below w.heap.size w W)(h:vE F W b s w'):vE F w b s w':=by obtain⟨F',aI,aZ,a6⟩:=h;exact⟨F',aI,fun k hk=>(aZ k hk).imp id (fun h=>bX A.size h),(da.of A).andThen a6⟩
def nH.below(h:nH F w b s)(A:Below w.heap.size w w'):nH F w' b s:=h.aside (G:=fun _=>False) ⟨A.os,A.tape,A.output,A.size,fun k hk _=>A.block k hk⟩ (fun _ _=>id)
def dK.aaX{I:List dC}{hi:Nat}{vs:List Value}(h:dK td w t I lo hi vs)(av:ki w w'):dK td w' t I lo hi vs:=h.a8 (fun k cs m e _ _=>av.other k cs _ m e (by unfold oM;decide)) (fun k cs m e6 au e=>av.other k cs _ m e (by unfold oM;rcases au with rfl | rfl | rfl<;>decide))
def apB(F:Nat->Prop)(w:World)(b:Nat)(s:ni)(eH:ByteArray)(e:Ending)(w':World):Prop:=(A1 (pq (uO s.ce s.ck.bY)) eH≠0/\e=.returned (.tuple #[q 0,q (A1 (pq (uO s.ce s.ck.bY)) eH:Int)])/\vE F w b s w')\/(A1 (pq (uO s.ce s.ck.bY)) eH=0/\6<=s.nj.length/\e=.returned (.tuple #[q 0,q 7])/\vE F w b s w')\/(A1 (pq (uO s.ce s.ck.bY)) eH=0/\s.nj.length<6/\e=.returned (.tuple #[q ((s.last+1:Nat):Int),q 0])/\∃ts t x lo hi td,hC eH=some (ts,t)/\w.heap.size<=lo/\oJ td (uO s.ce s.ck.bY)/\dK td w' t [] lo hi [M x]/\vE F w b {s with nj:=s.nj++[⟨s.last+1,s.ce.count,gq ts,mM ts,x⟩],last:=s.last+1} w')
def avj(h:nH F w b s)(ok:hA N s.ck)(dh:Ground w)(X:s.nj.length<=100)(wx:s.last<=1000000)(eH:ByteArray):ey 7 #[M b,.string eH] w (apB F w b s eH):=by
 have b5:=dh.uJ.js;obtain⟨aw,c,b6,bt,pa,cj,lc,aX,bD,pn,pc,h1,H,ab,aK⟩:=id h;obtain⟨aE,rh,aoD,lX⟩:=h1.bd ok;obtain⟨aC,c6,bA,rfl⟩:∃aC c6 bA,aE=.slice aC c6 bA:=by obtain⟨bs,_,C,_⟩:=lX;obtain⟨a,c,e⟩:=cG C.1;exact⟨a,_,c,e⟩
 obtain rfl:pn=s.nj.length:=by obtain⟨nB,e7,e⟩:=aK.shape;injection e
 have bc:=jq rh;have aqd:=u (auR (F:=fun k=>k<w.heap.size) eH s.ce s.ck.bY b aC b6 bt pa c6 bA cj lc aX bD s.nj.length pc (s.last:Int) s.ck.dS w dh.uJ rh H.inside ab.inside lX.inside (by have:=ok.wA;omega) (fun t au=>(ok.B t au).gp));have apC:Hid (∀W,Below w.heap.size w W->nH F W b s):=u (fun W A=>h.below A);have yR:Hid (∀W,Below w.heap.size w W->(dp W b 1=some (.slice b6 cj lc)/\dp W b 2=some (.slice bt aX bD)/\dp W b 3=some (q (s.ce.count:Int))/\dp W b 4=some (.slice pa s.nj.length pc))):=u (fun W A=>by
  have k:=Below.a8 A rh;exact⟨Z k (i:=1) rfl,Z k (i:=2) rfl,Z k (i:=3) rfl,Z k (i:=4) rfl⟩)
 have aqe:Hid (∀k,F k->oN w k/\8<=k):=u aw;clear h1 H ab aK rh aoD lX;unfold aqZ at aqd;generalize atB:A1 (pq (uO s.ce s.ck.bY)) eH=apD at *;have apE:=u atB;clear atB;go_enter func7,ntmps7;go_upto_region 2 with(go_at_call 24;refine aqd.d.mono ?_;rintro e J ⟨bJ,f,sp,YB,rfl,aj⟩);have dF:Below J.heap.size J (J.alloc (.cells #[q f,q sp,.pointer YB] 61)):=cT;have fq:=bH J (.cells #[q f,q sp,.pointer YB] 61);have hK:=Below.fK bJ dF;have lm:=u aj;have qN:=u bJ;clear aj bJ aqd;generalize arD:J.alloc (.cells #[q f,q sp,.pointer YB] 61)=W at *;have JX:Hid (∀(td:List eb) (t:aL) (lo hi:Nat) (vs:List Value),dK td J t [] lo hi vs->dK td W t [] lo hi vs):=u (fun _ _ _ _ _ h=>h.below dF);have kO:=u hK;clear dF;generalize J.heap.size=aB at *
 have eo:Hid (∀aU,Below W.heap.size W aU->(dp aU aB 0=some (q f)/\dp aU aB 1=some (q sp)/\dp aU aB 2=some (.pointer YB))):=u (fun aU A=>by
  have k:=Below.a8 A fq;exact⟨Z k (i:=0) rfl,Z k (i:=1) rfl,Z k (i:=2) rfl⟩)
 by_cases Rc:apD=0
 ·by_cases aqk:6<=s.nj.length
  ·have aql:Hid (ey 25 #[.pointer (some ⟨b,4,none⟩)] W fun e w'=>e=.returned (.bool true)/\W=w'):=u (by
    have:=aqP b 4 s.nj.length pc pa W (yR.d W kO.d).2.2.2;rw[decide_eq_true aqk] at this;exact this)
   have Oq:Hid (apB F w b s eH (.returned (.tuple #[q 0,q 7])) W):=u (.inr (.inl ⟨apE.d.trans Rc,aqk,rfl,vE.same (by first | exact h) kO.d⟩));subst Rc;clear h ok dh fq hK lm qN apC yR aqe JX eo;go_wp2_with (go_at_call 25;refine aql.d.mono ?_;rintro e S ⟨rfl,rfl⟩);go_ret2;exact Oq.d
  ·have aql:Hid (ey 25 #[.pointer (some ⟨b,4,none⟩)] W fun e w'=>e=.returned (.bool false)/\W=w'):=u (by
    have:=aqP b 4 s.nj.length pc pa W (yR.d W kO.d).2.2.2;rw[decide_eq_false aqk] at this;exact this)
   obtain⟨ts,t,x,lo,hi,td,q1,bN,fR,iK,j4,km,SI,atC⟩:=lm.d Rc;subst fR iK km;have vz:Below W.heap.size W W.drew:=⟨rfl,rfl,rfl,ap,fun _ _=>rfl⟩;have lg:Hid (ey 27 #[.agg #[.slice b6 cj lc,.slice bt aX bD,q (s.ce.count:Int)]] W.drew fun e aA=>e=.returned (q (s.ce.count:Int))/\(dp aA b 1=some (.slice b6 cj lc)/\dp aA b 2=some (.slice bt aX bD)/\dp aA b 3=some (q (s.ce.count:Int))/\dp aA aB 0=some (q (gq ts:Int))/\dp aA aB 1=some (q (mM ts))/\dp aA aB 2=some (M x))/\Hid (Below W.heap.size W aA)):=u ((ank b6 bt cj lc aX bD (s.ce.count:Int) W.drew).mono (by
    rintro e aA ⟨rfl,cg⟩;have lM:=Below.fK vz cg;obtain⟨bq,a2,a3⟩:=eo.d aA lM;obtain⟨Y,am,bm,_⟩:=yR.d aA (Below.fK kO.d lM);exact⟨rfl,⟨Y,am,bm,bq,a2,a3⟩,u lM⟩))
   have apF:Hid (∀aA,Below W.heap.size W aA->ey 26 #[.pointer (some ⟨b,4,none⟩),.agg #[q (gq ts:Int),q (mM ts),M x],q (s.ce.count:Int)] aA fun e bI=>e=.returned (q ((s.last+1:Nat):Int))/\(dp bI b 1=some (.slice b6 cj lc)/\dp bI b 2=some (.slice bt aX bD)/\dp bI b 3=some (q (s.ce.count:Int))/\dp bI aB 0=some (q (gq ts:Int))/\dp bI aB 1=some (q (mM ts))/\dp bI aB 2=some (M x))/\Hid (apB F w b s eH (.returned (.tuple #[q ((s.last+1:Nat):Int),q 0])) bI)):=u (fun aA cg=>by
    have Hs:=Below.fK kO.d cg;have FS:=apC.d aA Hs;refine(auI FS (bX b5 Hs.size) X wx s.ce.count (gq ts) (mM ts) x).mono ?_;rintro e bI ⟨rfl,⟨s1,s2,dd⟩,bi⟩;have av:ki aA bI:=by obtain⟨_,_,_,a6⟩:=bi;exact ki.of a6 FS.1
    have hk:=Below.a8 cg fq;have rm:=av.other _ _ _ _ hk (by unfold oM;decide);have apG:=((JX.d _ _ _ _ _ atC).below cg).aaX av;obtain⟨Y,am,bm,_⟩:=yR.d aA Hs;exact⟨rfl,⟨s1.trans Y,s2.trans am,dd.trans bm,Z rm (i:=0) rfl,Z rm (i:=1) rfl,Z rm (i:=2) rfl⟩,u (.inr (.inr ⟨apE.d.trans Rc,r,rfl,ts,t,x,lo,hi,td,q1,j4,SI,apG,vE.later Hs bi⟩))⟩)
   obtain⟨cN,bL,fS,jg⟩:=yR.d W kO.d;obtain⟨bq,a2,a3⟩:=eo.d W (Below.refl _ _);subst Rc;clear h ok dh fq hK lm qN apC aqe JX yR eo q1 bN j4 SI atC vz;go_upto_region 6 with(go_at_call 25;refine aql.d.mono ?_;rintro e S ⟨rfl,rfl⟩);go_region_held3 (fun w'=>w'.cell? ⟨b,1,none⟩=some (.slice b6 cj lc)/\w'.cell? ⟨b,2,none⟩=some (.slice bt aX bD)/\w'.cell? ⟨b,3,none⟩=some (q (s.ce.count:Int))/\w'.cell? ⟨aB,0,none⟩=some (q (gq ts:Int))/\w'.cell? ⟨aB,1,none⟩=some (q (mM ts))/\w'.cell? ⟨aB,2,none⟩=some (M x)) (go_keep) (first | (go_at_call 26;refine(apF.d aA JU.d).mono ?_;rintro e bI ⟨rfl,⟨d4,d5,d6,d0,d1,d2⟩,JT⟩) | (go_at_call 27;refine lg.d.mono ?_;rintro e aA ⟨rfl,⟨gp,fO,jy,bk,c1,c2⟩,JU⟩));all_goals
    go_wp2_with fail;go_ret2;exact JT.d
 ·have Oq:Hid (apB F w b s eH (.returned (.tuple #[q 0,q (apD:Int)])) W):=u (.inl ⟨by rw[apE.d];exact Rc,by rw[apE.d],vE.same h kO.d⟩);have aes:((apD:Int)==0)=false:=by rw[cV];omega
  have cy:¬(apD:Int)=0:=r;obtain⟨bq,a2,a3⟩:=eo.d W (Below.refl _ _);clear h ok dh fq hK lm qN apC yR aqe JX eo;go_wp2_with fail;go_ret2;exact Oq.d
def avw(h:nH F w b s)(b5:8<=w.heap.size)(X:s.nj.length<=100)(m:Int):ey 11 #[M b,q m] w fun e w'=>e=.returned (q (if (AW s.nj m).isSome then 0 else 8))/\vE F w b {s with nj:=Ge s.nj m} w':=by
 have ht:=u (atT h b5 X m);clear h;cases aj:(AW s.nj m).isSome with
 | true=>rw[aj] at ht;clear aj;go_enter func11,ntmps11;go_wp2_with (go_at_call 34;refine ht.d.mono ?_;rintro e S ⟨rfl,bi⟩);go_ret;exact⟨rfl,bi⟩
 | false=>rw[aj] at ht;clear aj;go_enter func11,ntmps11;go_wp2_with (go_at_call 34;refine ht.d.mono ?_;rintro e S ⟨rfl,bi⟩);go_ret;exact⟨rfl,bi⟩
def avl(h:nH F w b s):ey 8 #[M b] w fun e w'=>e=.returned (q (s.ce.count:Int))/\Below w.heap.size w w':=by obtain⟨aw,c,b6,bt,pa,cj,lc,aX,bD,pn,pc,h1,H,ab,aK⟩:=h;obtain⟨aqW,aE,bs,g0,g1,g2,g3⟩:=h1;have c1:dp w b 1=some (.slice b6 cj lc):=g1.cell (i:=1) rfl;have c2:dp w b 2=some (.slice bt aX bD):=g1.cell (i:=2) rfl;have dZ:dp w b 3=some (q (s.ce.count:Int)):=g1.cell (i:=3) rfl;have aN:=u (ank b6 bt cj lc aX bD (s.ce.count:Int) w);clear aw H ab aK g0 g1 g2 g3;go_enter func8,ntmps8;go_wp2_with (go_at_call 27;refine aN.d.mono ?_;rintro e S ⟨rfl,bi⟩);go_ret;exact⟨rfl,bi⟩
def avm(ae:A1 td eH=0)(ag:hC eH=some (ts,t)):aJ t 2/\mr t/\3*nq t<=900/\0<=mM ts:=by
 obtain⟨ko,mW⟩:=Xn (aoC ag) (Pq ag);have ut:0<=mM ts/\pj td t=0:=by
  unfold A1 at ae;split at ae
  ·rename_i h;exact absurd ae h
  ·rw[ag] at ae;simp only[] at ae;split at ae
   ·cases ae
   ·rename_i h;exact⟨r,ae⟩
 have ou:eh td [] t=true/\h6 t=false:=by
  have ut:=ut.2;unfold pj at ut;split at ut
  ·rename_i h;refine⟨h,?_⟩;split at ut
   ·cases ut
   ·rename_i H;simpa using H
  ·cases ut
 exact⟨ko,yO t 2 [] ko ou.1 ou.2,by have lq:2*nq t<=400:=mW;omega,ut.1⟩
def Il(bd:List bG)(p:n9)(t:aL)(W:World):Prop:=(∃lo hi td j,oJ td (uO j bd)/\dK td W t [] lo hi [M p.x])/\aJ t 2/\mr t/\3*nq t<=900/\-1000000000000<=p.span/\p.span<=1000000000000
def Il.below{bd:List bG}{p:n9}{t:aL}{W aU:World}(h:Il bd p t W)(A:Below W.heap.size W aU):Il bd p t aU:=by obtain⟨⟨lo,hi,td,j,h1,H⟩,ab⟩:=h;exact⟨⟨lo,hi,td,j,h1,H.below A⟩,ab⟩
def Il.aaX{bd:List bG}{p:n9}{t:aL}{W aU:World}(h:Il bd p t W)(A:ki W aU):Il bd p t aU:=by obtain⟨⟨lo,hi,td,j,h1,H⟩,ab⟩:=h;exact⟨⟨lo,hi,td,j,h1,H.aaX A⟩,ab⟩
def PH(T:n9->aL)(g:hG)(j:qh)(p:n9):Bool:=Uq (A0 p.since p.form p.span g.dS j g.bY) g.dS (T p)
def avn(h1:nH F W b s)(aK:Ground W)(ok:hA N s.ck)(fit:lw s.ck)(cS:N<=1000000000)(lX:s.ck.bY=[iy])(aS:JW s.ce)(aj:s.nj.length<=100)(T:n9->aL)(bi:∀p∈s.nj,Il s.ck.bY p (T p) W)(cU eH:ByteArray)(hu:cU.size<=1000000):ey 9 #[M b,.string cU,.string eH] W (JA F W b (gE (PH T s.ck) s cU eH)):=by
 have f1:=aS.vc;have f2:=aS.log;have f3:=aS.Py;have bM : -1000000000000<=s.ck.dS:=by have:=ok.zN;omega
 refine XV (PH T s.ck) h1 ok fit aK cU eH hu r r r r (fun p AK aU b6 bt hM cj lc aX bD CM nd uf A oE kv bw avo=>?_);obtain⟨⟨lo,hi,td,atH,q1,bN⟩,fR,iK,j4,km,SI⟩:=bi p AK;have apc:=apA lX ok fit cS aS avo;have g1:=apc.vc;have g2:=apc.log;have g3:=apc.Py;exact auu (F:=fun k=>k<aU.heap.size) (td:=td) (bd:=s.ck.bY) (t:=T p) (lo:=lo) (hi:=hi) p.num p.since p.form p.span s.ck.dS p.x b6 bt hM cj lc aX bD CM nd uf aU oE kv (fun C ag=>(apc.cX C ag).1) r r km SI (by rw[lX];show 1<=900;omega) bw (fun h5 v ah nN=>⟨fun k=>k<h5.heap.size,auw (fit.B ok) apc _ _ _ _,q1,bM,ok.ya,fR,iK,j4,((aK.below A).below ah).vC.lt,((aK.below A).below ah).vC,(bN.below A).below ah,nN.inside,fun k hk=>hk⟩) bM ok.ya
def avp(h1:nH F W b s)(aK:Ground W)(ok:hA N s.ck)(X:s.nj.length<6)(wx:s.last<=1000000)(eH:ByteArray)(aj:A1 (pq (uO s.ce s.ck.bY)) eH=0):ey 7 #[M b,.string eH] W fun e aU=>e=.returned (.tuple #[q ((s.last+1:Nat):Int),q 0])/\∃ts t x,hC eH=some (ts,t)/\(mM ts<=1000000000000->Il s.ck.bY ⟨s.last+1,s.ce.count,gq ts,mM ts,x⟩ t aU)/\vE F W b {s with nj:=s.nj++[⟨s.last+1,s.ce.count,gq ts,mM ts,x⟩],last:=s.last+1} aU:=by
 refine(avj h1 ok aK r wx eH).mono ?_;rintro e aU (⟨cy,-⟩ | ⟨-,cE,-⟩ | ⟨-,-,rfl,ts,t,x,lo,hi,td,q1,bN,fR,iK,j4⟩)
 ·exact absurd aj cy
 ·omega
 ·obtain⟨p1,p2,fw,pf⟩:=avm aj q1;exact⟨rfl,ts,t,x,q1,fun hs=>⟨⟨lo,hi,td,s.ce,fR,iK⟩,p1,p2,fw,by show(-1000000000000:Int)<=mM ts;omega,hs⟩,j4⟩
def YL:hA 5 (⟨[⟨fL,mA,[],0⟩],0⟩:hG):=by have:=(hA.zero 5).create fL F8;rw[PE] at this;exact this
def Gc:hA 6 (⟨r9,0⟩:hG)/\lw (⟨r9,0⟩:hG):=by have h1:=YL.insert fL [⟨#[55]⟩,⟨#[39,113,39]⟩];have H:=(lw.zero.create fL F8).insert fL [⟨#[55]⟩,⟨#[39,113,39]⟩];rw[PE] at H;rw[Yb] at h1 H;exact⟨h1,H⟩
def YM:hA 6 (⟨vI,0⟩:hG)/\lw (⟨vI,0⟩:hG):=by have h1:=Gc.1.delete fL 1;have H:=Gc.2.delete fL 1;have e:pz (⟨r9,0⟩:hG) fL 1=(0,⟨vI,0⟩):=Yc;rw[e] at h1 H;exact⟨h1,H⟩
def YN{g:Nat}{x y:ByteArray}(h:w.heap[g]?=some (.cells #[.string x,.string y] 9 (0,0))):zG w g [x,y]:=fun i hi=>by
 have H:i=0\/i=1:=by simp at hi;omega
 rcases H with rfl | rfl
 ·exact Z h (i:=0) rfl
 ·exact Z h (i:=1) rfl
def YO(cD:List (Int×Int))(uN:Value)(w:World)(dh:Ground w)(hit:CY w uN cD):ey 6 #[uN] w fun e w'=>∃b,e=.returned (M b)/\gF w b (mB cD (min cD.length 12)) w':=by
 obtain⟨⟨a,af,rfl,hit⟩,b7,k7⟩:=hit;have aqf:=u hit;have AB:=u k7;have YP:=u (ao8 w dh);have YQ:Hid (∀W b,gF w b Js W->ey 19 #[M b,.string ⟨#[116]⟩,.string ⟨#[120,58,105,44,121,58,116]⟩] W fun e aU=>e=.returned (q 0)/\Hid (gF w b ⟨⟨[⟨fL,mA,[],0⟩],0⟩,⟨[],[],0⟩,[],0⟩ aU)):=u (fun W b h=>by
  have:=ao6 h (hA.zero 5) fL F8 K K;refine this.mono ?_;rintro e aU ⟨rfl,hk⟩;have gi:=hk.out.1;have c7:lL Js.ck fL F8=(0,⟨[⟨fL,mA,[],0⟩],0⟩):=PE;rw[c7] at gi ⊢;exact⟨rfl,u gi⟩)
 have YR:Hid (∀W b,gF w b ⟨⟨[⟨fL,mA,[],0⟩],0⟩,⟨[],[],0⟩,[],0⟩ W->ey 20 #[M b,.string ⟨#[116]⟩,.slice (some ⟨W.heap.size,0,none⟩) 2 2] (W.alloc (.cells #[.string ⟨#[55]⟩,.string ⟨#[39,113,39]⟩] 9)) fun e aU=>e=.returned (.tuple #[q 1,q 0])/\Hid (gF w b JI aU)):=u (fun W b h=>by
  have dF:=(Below.refl W.heap.size W).alloc ap (.cells #[.string ⟨#[55]⟩,.string ⟨#[39,113,39]⟩] 9);have qy:=bH W (.cells #[.string ⟨#[55]⟩,.string ⟨#[39,113,39]⟩] 9);have:=Yh (h.below dF) YL K fL W.heap.size 2 [⟨#[55]⟩,⟨#[39,113,39]⟩] (YN qy) (jq qy) K K;refine this.mono ?_;rintro e aU ⟨rfl,hk⟩;have gi:=hk.out.1;have c7:mF ⟨[⟨fL,mA,[],0⟩],0⟩ fL [⟨#[55]⟩,⟨#[39,113,39]⟩]=(1,0,⟨r9,0⟩):=Yb;rw[c7] at gi ⊢;exact⟨rfl,u gi⟩)
 have C3:Hid (∀W b,gF w b JI W->ey 9 #[M b,.string ⟨#[117]⟩,.string ⟨#[115,101,108,101,99,116,32,97,46,120,44,32,97,46,121,32,102,114,111,109,32,116,32,97]⟩] W fun e aU=>∃dc de,e=.returned (.tuple #[.agg #[.slice dc 1 de,q 0],q 0])/\Hid (fW 0 aU (.slice dc 1 de) JH/\gF w b ⟨⟨r9,0⟩,nh hS 0 [(fL,1)] ⟨[],[],0⟩,[],0⟩ aU)):=u (fun W b h=>by
  refine(Yi h Gc.1 Gc.2 hS CU K K K K rfl).mono ?_;rintro e aU ⟨dc,on,de,rfl,hk⟩;obtain⟨ct,bZ,_⟩:=hk.out;rw[ao4] at ct bZ ⊢;have PR:on=1:=by obtain⟨bE,C,am,_⟩:=id ct;obtain⟨nB,e7,Y⟩:=cG C;injection Y with _ Y _;rw[Y,am];rfl
  subst PR;exact⟨dc,de,rfl,u ⟨ct,bZ⟩⟩)
 have C1:Hid (∀W b,gF w b ⟨⟨r9,0⟩,nh hS 0 [(fL,1)] ⟨[],[],0⟩,[],0⟩ W->ey 21 #[M b,.string ⟨#[116]⟩,q 1] W fun e aU=>e=.returned (q 0)/\Hid (gF w b JJ aU/\ki W aU)):=u (fun W b h=>by
  refine(ao7 h Gc.1 fL 1).mono ?_;rintro e aU ⟨rfl,hk⟩;have gi:=hk.out;have c7:pz (⟨r9,0⟩:hG) fL 1=(0,⟨vI,0⟩):=Yc;rw[c7] at gi ⊢;exact⟨rfl,u gi⟩)
 have vD:Hid (∀W b,gF w b JJ W->ey 9 #[M b,.string ⟨#[117]⟩,.string ⟨#[115,101,108,101,99,116,32,97,46,120,32,102,114,111,109,32,116,32,97]⟩] W fun e aU=>∃dc de,e=.returned (.tuple #[.agg #[.slice dc 0 de,q 0],q 0])/\Hid (gF w b AT aU/\ki W aU)):=u (fun W b h=>by
  refine(Yi h YM.1 YM.2 hS CV K K K K rfl).mono ?_;rintro e aU ⟨dc,on,de,rfl,hk⟩;obtain⟨ct,bZ⟩:=hk.out;rw[ao5] at ct bZ ⊢;have PR:on=0:=by obtain⟨bE,C,am,_⟩:=id ct;obtain⟨nB,e7,Y⟩:=cG C;injection Y with _ Y _;rw[Y,am];rfl
  subst PR;exact⟨dc,de,rfl,u bZ⟩)
 clear dh hit k7;go_enter func6,ntmps6;go_upto_region 7 with(first
  | (go_at_call 9;refine(C3.out aA b l2.out).mono ?_;rintro e bI ⟨dc,de,rfl,l9⟩)
  | (go_at_call 20;refine(YR.out S b iH.out).mono ?_;rintro e aA ⟨rfl,l2⟩)
  | (go_at_call 19;refine(YQ.out J b H1.out).mono ?_;rintro e S ⟨rfl,iH⟩)
  | (go_at_call 18;refine YP.out.mono ?_;rintro e J ⟨b,rfl,H1⟩))
 go_upto_region 9 with(first
  | (go_at_call 9;refine(vD.out bh b rq.out.1).mono ?_;rintro e cw ⟨rl,vL,rfl,p6⟩)
  | (go_at_call 21;refine(C1.out _ b (l9.out.2.below cT)).mono ?_;rintro e bh ⟨rfl,rq⟩))
 have PS:Hid (gF w b AT (cw.alloc (.cells #[.slice rl 0 vL,q 0] 32))):=u (p6.out.1.below cT);obtain⟨g,aC,bA,ib,rfl,rfl,d0,d1,d2,d3,d4⟩:∃g aC bA ib,dc=some ⟨g,0,none⟩/\aC=some ⟨ib,0,none⟩/\(cw.alloc (.cells #[.slice rl 0 vL,q 0] 32)).cell? ⟨bI.heap.size,0,none⟩=some (.slice dc 1 de)/\(cw.alloc (.cells #[.slice rl 0 vL,q 0] 32)).cell? ⟨g,0,none⟩=some (.slice aC 2 bA)/\(cw.alloc (.cells #[.slice rl 0 vL,q 0] 32)).cell? ⟨ib,0,none⟩=some (.string ⟨#[55]⟩)/\(cw.alloc (.cells #[.slice rl 0 vL,q 0] 32)).cell? ⟨ib,1,none⟩=some (.string ⟨#[39,113,39]⟩)/\(cw.alloc (.cells #[.slice rl 0 vL,q 0] 32)).cell? ⟨cw.heap.size,0,none⟩=some (.slice rl 0 vL):=by
  have av:ki (bI.alloc (.cells #[.slice dc 1 de,q 0] 32)) (cw.alloc (.cells #[.slice rl 0 vL,q 0] 32)):=(rq.out.2.trans p6.out.2).trans (ki.below cT);have fA:=av.other _ _ _ _ (bH bI _) (F9 (.inr (.inr (.inr rfl))));have ct:=av.out (l9.out.1.below ((Below.refl _ _).alloc ap (.cells #[.slice dc 1 de,q 0] 32)));obtain⟨bE,C,am,k⟩:=ct;have kz:bE.length=1:=am;have lK:(cw.alloc (.cells #[.slice rl 0 vL,q 0] 32)).ownsRow 0 55 2 (.slice dc bE.length de) bE.length (bE.flatMap CH):=by rw[kz] at C ⊢;exact C
  obtain⟨g,eX,R,bk,c1⟩:=Ps lK 0 r;obtain⟨aI,_⟩:=k 0 r (by show 0<1;omega);obtain⟨aC,bA,Y⟩:=cG aI;rw[Y] at bk aI;obtain⟨ib,ev,_,nc⟩:=PF (l:=[⟨#[55]⟩,⟨#[39,113,39]⟩]) aI 0 (by show 0<2;omega);obtain⟨atD,C4,_,s1⟩:=PF (l:=[⟨#[55]⟩,⟨#[39,113,39]⟩]) aI 1 (by show 1<2;omega);rw[ev] at C4;injection C4 with C4;injection C4 with C4;subst C4;exact⟨g,aC,bA,ib,eX,ev,Z fA (i:=0) rfl,bk,nc,s1,Z (bH cw _) (i:=0) rfl⟩
 generalize cw.alloc (.cells #[.slice rl 0 vL,q 0] 32)=YS at *;clear YP YQ YR C3 C1 vD H1 iH l2 l9 rq p6;go_upto_region 12 with fail;clear d0 d1 d2 d3 d4;have H4:Hid (gF w b (mB cD 0) YS):=u PS.out;have kO:Hid (Below w.heap.size w YS):=u PS.out.ho;clear PS;go_loopg [5,6,12] 13 (fun U Ya kr gr wr=>∃k:Nat,gr=q (k:Int)/\k<=cD.length/\k<=12/\Hid (gF w b (mB cD k) wr)/\12-k<U);case atStart=>exact⟨0,rfl,bu,bu,H4,r⟩
 case round=>
  obtain⟨k,rfl,bZ,dR,e1,ae⟩:=hrel;by_cases jl:k<cD.length
  ·by_cases I4:k<12
   ·have JR:(k:Int)<(cD.length:Int):=r;have atE:(k:Int)<12:=r;obtain⟨g2,off,rfl,bC,iV⟩:∃g off,a=some ⟨g,off,none⟩/\g<w.heap.size/\∀i (h:i<cD.length),dp w g (off+i*2)=some (q cD[i].1)/\dp w g (off+i*2+1)=some (q cD[i].2):=by
     rcases aqf.out with h | h
     ·rw[h] at jl;exact absurd jl (fp _)
     ·exact h
    obtain⟨bz,cz,fP,mq⟩:=AB.out _ (ec jl);have ko:cD.getD k (0,0)=cD[k]:=by rw[List.getD_eq_getElem?_getD,fC jl];rfl
    have PT:Hid (mF (uM cD k) fL [nk cD[k].1,nl cD[k].2]=(k+2,0,uM cD (k+1))):=u (by have:=Ym cD k I4;rw[ko] at this;exact this);have uu:Hid (∀W,Below w.heap.size w W->dp W g2 (off+k*2)=some (q cD[k].1)/\dp W g2 (off+k*2+1)=some (q cD[k].2)):=u (fun W A=>⟨(A.cell (p:=⟨g2,off+k*2,none⟩) bC).trans (iV k jl).1,(A.cell (p:=⟨g2,off+k*2+1,none⟩) bC).trans (iV k jl).2⟩);have q9:IntKind.i64.wrap ((k:Int)+2)=(k:Int)+2:=mC;have q8:IntKind.i64.wrap ((k:Int)+1)=(k:Int)+1:=mC;clear iV ko;generalize cD[k]=aqg at *;obtain⟨q2,q3⟩:=aqg;simp only[] at bz cz fP mq PT uu;have vz:Below wr.heap.size wr wr.drew:=⟨rfl,rfl,rfl,ap,fun _ _=>rfl⟩
    have aqh:Hid (ey 22 #[q q2] wr.drew fun e J=>e=.returned (.string (nk q2))/\(dp J g2 (off+k*2)=some (q q2)/\dp J g2 (off+k*2+1)=some (q q3))/\Hid (gF w b (mB cD k) J)):=u ((aoP q2 wr.drew bz cz).mono (by
     rintro e J ⟨rfl,A⟩;have h1:=(e1.out.below vz).below A;exact⟨rfl,uu.out J h1.ho,u h1⟩))
    have aqi:Hid (∀W,gF w b (mB cD k) W->ey 23 #[q q3] W fun e S=>e=.returned (.string (nl q3))/\(dp S g2 (off+k*2)=some (q q2)/\dp S g2 (off+k*2+1)=some (q q3))/\Hid (gF w b (mB cD k) S)):=u (fun W h=>(aoQ q3 W fP mq).mono (by
     rintro e S ⟨rfl,A⟩;have h1:=h.below A;exact⟨rfl,uu.out S h1.ho,u h1⟩))
    have aqj:Hid (∀W,gF w b (mB cD k) W->ey 20 #[M b,.string ⟨#[116]⟩,.slice (some ⟨W.heap.size,0,none⟩) 2 2] (W.alloc (.cells #[.string (nk q2),.string (nl q3)] 9)) fun e aA=>e=.returned (.tuple #[q ((k:Int)+2),q 0])/\(dp aA g2 (off+k*2)=some (q q2)/\dp aA g2 (off+k*2+1)=some (q q3))/\Hid (gF w b (mB cD (k+1)) aA)):=u (fun W h=>by
     have dF:=(Below.refl W.heap.size W).alloc ap (.cells #[.string (nk q2),.string (nl q3)] 9);have qy:=bH W (.cells #[.string (nk q2),.string (nl q3)] 9);have:=Yh (h.below dF) (PG cD k dR).1 r fL W.heap.size 2 [nk q2,nl q3] (YN qy) (jq qy) (by show 2<=2000000;omega) (fun t au=>by
      have q1:=(Yj q2).2.2;have bN:=(Yk q3).2.2;rcases List.mem_cons.1 au with rfl | au
      ·omega
      ·obtain rfl:=ic au;omega)
     refine this.mono ?_;rintro e aA ⟨rfl,hk⟩;have gi:=hk.out.1;have c7:mF (mB cD k).ck fL [nk q2,nl q3]=(k+2,0,uM cD (k+1)):=PT.out;rw[c7] at gi ⊢;have YT:gF w b (mB cD (k+1)) aA:=gi;exact⟨rfl,uu.out aA YT.ho,u YT⟩)
    obtain⟨nc,s1⟩:=uu.out wr e1.out.ho;generalize nk q2=atF at *;generalize nl q3=atG at *;have ch:=u ae;clear ae bz cz fP mq PT vz bC uu;go_upto_region 14 with fail;go_region_held3 (fun w'=>w'.cell? ⟨g2,off+k*2,none⟩=some (q q2)/\w'.cell? ⟨g2,off+k*2+1,none⟩=some (q q3)) (go_keep) (first
     | (go_at_call 20;refine(aqj.out S kh.out).mono ?_;rintro e aA ⟨rfl,⟨bk,c1⟩,oO⟩)
     | (go_at_call 23;refine(aqi.out J jd.out).mono ?_;rintro e S ⟨rfl,⟨hr,cN⟩,kh⟩)
     | (go_at_call 22;refine aqh.out.mono ?_;rintro e J ⟨rfl,⟨a0,bq⟩,jd⟩))
    all_goals
     clear nc s1 a0 bq hr cN bk c1;go_wp2_with fail;have ae:=ch.out;go_roundg (gk-1);case measure=>omega
     case rel=>exact⟨k+1,by go_num,r,r,oO,r⟩
   ·have vq:k=12:=r;subst vq;have JR:((12:Nat):Int)<(cD.length:Int):=r;have bK:Hid (min cD.length 12=12):=u r;clear ae;go_wp2_with fail;go_ret;exact⟨b,rfl,by rw[bK.out];exact e1.out⟩
  ·have vq:k=cD.length:=r;have JR:(cD.length:Int)<=(k:Int):=r;have bK:Hid (min cD.length 12=k):=u r;clear ae vq;go_wp2_with fail;go_ret;exact⟨b,rfl,by rw[bK.out];exact e1.out⟩
def atI(bd:List bG):oJ (pq bd) bd:=by unfold oJ pq;rw[List.map_map];rfl
def avx:VL []:=⟨bu,fun C ag=>absurd ag (List.not_mem_nil),fun C ag=>absurd ag (List.not_mem_nil)⟩
def avr(s:ByteArray)(fe:List Nat):kq s fe<=2:=by
 unfold kq;split
 ·decide
 ·split
  ·split<;>decide
  ·decide
def avs(td:List eb)(s:ByteArray):hN td s<=5:=by
 unfold hN;split
 ·exact bX (avr s [0]) K
 ·split
  ·decide
  ·unfold pj;split
   ·split
    ·decide
    ·split<;>decide
   ·decide
structure gQ (w:World) (cN:Nat) (s1:ni) (bL:Nat) (s2:ni) (W:World):Prop where
 own:∃UM UN,nH UM W cN s1/\nH UN W bL s2/\(∀k,UM k->¬UN k)/\(∀k,UM k->w.heap.size<=k)/\∀k,UN k->w.heap.size<=k
 ho:Below w.heap.size w W
 xo:Ground W
def gQ.of{J S:World}(h1:gF w cN s1 J)(H:gF J bL s2 S):gQ w cN s1 bL s2 S:=by obtain⟨⟨UM,bq,a2⟩,a3,a4⟩:=h1;obtain⟨⟨UN,c1,c2⟩,dZ,gp⟩:=H;refine⟨⟨UM,UN,bq.aside (G:=fun _=>False) ⟨dZ.os,dZ.tape,dZ.output,dZ.size,fun k hk _=>dZ.block k hk⟩ (fun _ _=>id),c1,fun k x y=>?_,a2,fun k hk=>bX a3.size (c2 k hk)⟩,Below.fK a3 dZ,gp⟩;have:=bq.fH k x;have:=c2 k y;omega
def gQ.swap(h:gQ w cN s1 bL s2 W):gQ w bL s2 cN s1 W:=by obtain⟨⟨UM,UN,bq,a2,a3,a4,a5⟩,kG,jv⟩:=h;exact⟨⟨UN,UM,a2,bq,fun k x y=>a3 k y x,a5,a4⟩,kG,jv⟩
def gQ.below{w W aU:World}{cN bL:Nat}{s1 s2:ni}(h:gQ w cN s1 bL s2 W)(A:Below W.heap.size W aU):gQ w cN s1 bL s2 aU:=by obtain⟨⟨UM,UN,bq,a2,a3,a4,a5⟩,kG,jv⟩:=h;have st:da (fun _=>False) W aU:=⟨A.os,A.tape,A.output,A.size,fun k hk _=>A.block k hk⟩;exact⟨⟨UM,UN,bq.aside st (fun _ _=>id),a2.aside st (fun _ _=>id),a3,a4,a5⟩,Below.fK kG A,jv.below A⟩
def CY.below{l:List (Int×Int)}(h:CY w v l)(A:Below w.heap.size w w'):CY w' v l:=by
 obtain⟨⟨a,af,e,h1⟩,H,ab⟩:=h;refine⟨⟨a,af,e,?_⟩,H,ab⟩;rcases h1 with h1 | ⟨g,off,Y,R,ai⟩
 ·exact .inl h1
 ·exact .inr ⟨g,off,Y,e0 R A.size,fun i hi=>⟨(A.cell (p:=⟨g,off+i*2,none⟩) R).trans (ai i hi).1,(A.cell (p:=⟨g,off+i*2+1,none⟩) R).trans (ai i hi).2⟩⟩
def gQ.call{G:Nat->Prop}(h1:∀k,F k->oN W k/\8<=k)(H:nH G W c bp)(ab:∀k,F k->w.heap.size<=k)(aK:∀k,G k->w.heap.size<=k)(cO:∀k,F k->¬G k)(A:Below w.heap.size w W)(R:Ground W)(bi:vE F W b fu aU):gQ w b fu c bp aU/\ki W aU:=by
 obtain⟨F',aI,aZ,a6⟩:=bi;refine⟨⟨⟨F',G,aI,H.aside a6 (fun k hk av=>cO k av hk),fun U ae R=>?_,fun U ae=>?_,aK⟩,⟨a6.os.trans A.os,a6.tape.trans A.tape,a6.output.trans A.output,bX A.size a6.size,fun U ae=>?_⟩,R.anx a6 (fun U ae=>(h1 U ae).2)⟩,ki.of a6 h1⟩
 ·rcases aZ U ae with h | h
  ·exact cO U h R
  ·have:=H.fH U R;omega
 ·rcases aZ U ae with h | h
  ·exact ab U h
  ·exact bX A.size h
 ·exact(a6.block U (e0 ae A.size) (fun x=>by have:=ab U x;omega)).trans (A.block U ae)
def ahQ(h:gQ w b s c bp W)(ok:hA N s.ck)(fit:lw s.ck)(cS:N<=1000000000)(lX:s.ck.bY=[iy])(aS:JW s.ce)(aj:s.nj.length<=100)(T:n9->aL)(bi:∀p∈s.nj,Il s.ck.bY p (T p) W)(cU eH:ByteArray)(hu:cU.size<=1000000):ey 9 #[M b,.string cU,.string eH] W fun e aU=>∃a n k,e=.returned (.tuple #[.agg #[.slice a n k,q ((gE (PH T s.ck) s cU eH).Jt:Int)],q ((gE (PH T s.ck) s cU eH).qk:Int)])/\Hid (fW 0 aU (.slice a n k) (gE (PH T s.ck) s cU eH).out/\gQ w b (gE (PH T s.ck) s cU eH).FX c bp aU/\ki W aU):=by
 obtain⟨⟨F,G,h1,H,cO,ab,aK⟩,cE,kD⟩:=h;refine(avn h1 kD ok fit cS lX aS aj T bi cU eH hu).mono ?_;rintro e aU ⟨a,n,k,rfl,ct,bi⟩;exact⟨a,n,k,rfl,u ⟨ct,gQ.call h1.1 H ab aK cO cE kD bi⟩⟩
def avy(h:gQ w b s c bp W)(ok:hA N s.ck)(X:s.nj.length<6)(wx:s.last<=1000000)(eH:ByteArray)(aj:A1 (pq (uO s.ce s.ck.bY)) eH=0):ey 7 #[M b,.string eH] W fun e aU=>e=.returned (.tuple #[q ((s.last+1:Nat):Int),q 0])/\Hid (∃ts t x,hC eH=some (ts,t)/\(mM ts<=1000000000000->Il s.ck.bY ⟨s.last+1,s.ce.count,gq ts,mM ts,x⟩ t aU)/\gQ w b {s with nj:=s.nj++[⟨s.last+1,s.ce.count,gq ts,mM ts,x⟩],last:=s.last+1} c bp aU/\ki W aU):=by obtain⟨⟨F,G,h1,H,cO,ab,aK⟩,cE,kD⟩:=h;refine(avp h1 kD ok X wx eH aj).mono ?_;rintro e aU ⟨rfl,ts,t,x,q1,bN,fR⟩;obtain⟨aI,aZ⟩:=gQ.call h1.1 H ab aK cO cE kD fR;exact⟨rfl,u ⟨ts,t,x,q1,bN,aI,aZ⟩⟩
def aqn(h:gQ w b s c bp W)(X:s.nj.length<=100)(m:Int):ey 11 #[M b,q m] W fun e aU=>e=.returned (q (if (AW s.nj m).isSome then 0 else 8))/\Hid (gQ w b {s with nj:=Ge s.nj m} c bp aU/\ki W aU):=by obtain⟨⟨F,G,h1,H,cO,ab,aK⟩,cE,kD⟩:=h;refine(avw h1 kD.uJ.js X m).mono ?_;rintro e aU ⟨rfl,bi⟩;exact⟨rfl,u (gQ.call h1.1 H ab aK cO cE kD bi)⟩
def aqo(h:gQ w b s c bp W):ey 8 #[M b] W fun e aU=>e=.returned (q (s.ce.count:Int))/\Hid (Below W.heap.size W aU):=by obtain⟨⟨F,G,h1,H,cO,ab,aK⟩,cE,kD⟩:=h;exact(avl h1).mono (fun e aU h=>⟨h.1,u h.2⟩)
def AY(g:az->List (je)->az×List (je))(p:je->Bool)(R:∀st aP,st.dE=false->g st aP=(st,if p st.ad then aP++[st.ad] else aP)):∀(l:je) (st:az) (aP:List (je)),st.ad=[]->st.dE=false->oz g l st aP=(st,aP++(l.filter fun C=>p [C]).map fun C=>[C])
 | [],st,aP,_,_=>by simp[oz]
 | C::l,st,aP,aw,h1=>by
  obtain⟨ad,bF,eP,dE⟩:=st;simp only at aw h1;subst aw h1;rw[oz,R _ _ rfl];simp only[List.nil_append,List.length_singleton,Nat.sub_self,List.take_zero];rw[AY g p R l ⟨[],bF,eP,false⟩ _ rfl rfl];by_cases aj:p [C]=true
  ·simp[aj]
  ·simp[aj]
def AZ(a8:az->Bool×az)(ba:az->List al×az)(f:je->List al)(Cu:∀s,a8 s=(true,s))(hv:∀s,ba s=(f s.ad,s)):∀(l:je) (aP:List (List al×List (je))) (st:az),st.ad=[]->st.dE=false->(k8 a8 ba (l.map fun C=>[[C]]) aP st).1=aP++l.map (fun C=>(f [C],[[C]]))/\(k8 a8 ba (l.map fun C=>[[C]]) aP st).2.dE=false
 | [],aP,st,_,h1=>by simp[k8,h1]
 | C::l,aP,st,aw,h1=>by
  obtain⟨ad,bF,eP,dE⟩:=st;simp only at aw h1;subst aw h1;rw[List.map_cons,k8];simp only[Bool.false_eq_true,if_false];have e:mp a8 ba [[C]] ⟨[],bF,eP,false⟩=([(f [C],[[C]])],⟨[],[[C]],eP,false⟩):=by unfold mp;simp[Cu,hv]
  rw[e];have aH:=AZ a8 ba f Cu hv l (aP++[(f [C],[[C]])]) ⟨[],[[C]],eP,false⟩ rfl rfl;rw[aH.1];exact⟨by simp,aH.2⟩
def H9{e:aL}{s:ByteArray×ByteArray}(ak:dJ e=false)(p:je->Bool)(hk:∀st,iZ (bR B O wh (ea B [s])) wh st=(p st.ad,st))(f:je->List al)(hv:∀st,hL (ea B [s]) O e st=(f st.ad,st))(ar:(gC B s).length<=20000):(bR B O (.query e [s] wh .nil .nil) [] nG).2.1=((gC B s).filter fun C=>p [C]).map (fun C=>(f [C],[[C]]))/\(bR B O (.query e [s] wh .nil .nil) [] nG).2.2.dE=false:=by
 have ai:fY B [s]=(gC B s).length:=by simp[fY]
 have PN:iJ B [s] (iZ (bR B O wh (ea B [s])) wh) nG=(mQ (gC B s).length nG,((gC B s).filter fun C=>p [C]).map fun C=>[C]):=by
  unfold iJ;rw[ai];split
  ·rename_i aw;rw[ma aw];rfl
  ·have av:(mQ (gC B s).length nG).dE=false:=by simp[mQ,nG];omega
   rw[hB,if_neg (by rw[av];decide)];rw[AY _ p (fun st aP h=>by rw[hB,if_neg (by rw[h];decide),hk];rfl) _ _ _ rfl av,List.nil_append]
 have av:(mQ (gC B s).length nG).dE=false:=by simp[mQ,nG];omega
 have Cu:∀st,iZ (bR B O .nil (ea B [s])) .nil st=(true,st):=fun st=>rfl;have h:=AZ _ _ f Cu hv ((gC B s).filter fun C=>p [C]) [] (mQ (gC B s).length nG) rfl av;have R:mR e .nil .nil (hL (ea B [s]) O .nil) (mQ (gC B s).length nG,((gC B s).filter fun C=>p [C]).map fun C=>[C])=(((gC B s).filter fun C=>p [C]).map fun C=>[[C]],mQ (gC B s).length nG):=by unfold mR wD;rw[ak];simp[isNone]
 rw[bR];simp only[List.nil_append];rw[PN,R];rw[List.nil_append] at h;exact h
def UP:ByteArray:=⟨#[101,118,101,114,32,115,101,108,101,99,116,32,113,46,105,100,32,102,114,111,109,32,108,111,103,32,113,32,119,104,101,114,101,32,113,46,117,115,101,114,32,61,32,39,101,118,101,39]⟩
def gU:ByteArray:=⟨#[101,118,101]⟩
def vM:ByteArray:=⟨#[98,111,98]⟩
def G2:ByteArray:=⟨#[113]⟩
def PI:ByteArray:=⟨#[108,111,103]⟩
def aka:List (ByteArray×Nat):=[(⟨#[105,100]⟩,1),(⟨#[117,115,101,114]⟩,2),(⟨#[116,105,109,101]⟩,1)]
def ahS:aL:=.cons (.node 1 G2 ⟨#[105,100]⟩ al.zero .nil .nil) .nil
def YE:aL:=.node 16 ⟨#[]⟩ ⟨#[]⟩ al.zero (.cons (.node 1 G2 ⟨#[117,115,101,114]⟩ al.zero .nil .nil) (.cons (.node 2 ⟨#[]⟩ ⟨#[]⟩ ⟨2,0,[101,118,101]⟩ .nil .nil) .nil)) .nil
def AV:aL:=.query ahS [(PI,G2)] YE .nil .nil
def awj:∀ts t,hC UP=some (ts,t)->t=AV/\gq ts=2/\mM ts=0:=by intro ts t h;have h1:hC UP=some (((hC UP).getD ([],.nil)).1,((hC UP).getD ([],.nil)).2):=ax;rw[h1] at h;injection h with h;injection h with Y am;subst Y am;exact⟨ax,ax,ax⟩
def awn(l1 bT:je)(c:Nat)(cm:je)(k:Nat):A1 (pq (uO ⟨l1,bT,c⟩ [⟨fL,mA,cm,k⟩])) UP=0:=ax
def atL(L ox:je)(bd:List bG):gC ([Al L,Am ox]++bd) (PI,G2)=L:=by
 have:fD ([Al L,Am ox]++bd) PI=some 0:=by unfold fD;rw[List.cons_append,List.findIdx?_cons];rfl
 unfold gC;rw[show(PI,G2).1=PI from rfl,this];rfl
def aqp(L ox:je)(bd:List bG):ea ([Al L,Am ox]++bd) [(PI,G2)]=[⟨G2,aka⟩]:=by
 have:fD ([Al L,Am ox]++bd) PI=some 0:=by unfold fD;rw[List.cons_append,List.findIdx?_cons];rfl
 unfold ea zQ;rw[List.map_singleton,show(PI,G2).1=PI from rfl,this];rfl
def PM(C:Nat×List al):Bool:=decide (pP 16 (C.2.getD 1 al.zero) ⟨2,0,[101,118,101]⟩=2)
def awo(L ox:je)(bd:List bG)(O:Int)(X:L.length<=20000):Uq ([Al L,Am ox]++bd) O AV=L.any PM:=by
 have pG:L0 [⟨G2,aka⟩] G2 ⟨#[105,100]⟩=some (0,0,1):=ax;have go:L0 [⟨G2,aka⟩] G2 ⟨#[117,115,101,114]⟩=some (0,1,2):=ax;have hk:∀st,iZ (bR ([Al L,Am ox]++bd) O YE (ea ([Al L,Am ox]++bd) [(PI,G2)])) YE st=((fun l=>decide (pP 16 (((l.getD 0 (0,[])).2).getD 1 al.zero) ⟨2,0,[101,118,101]⟩=2)) st.ad,st):=fun st=>by rw[aqp];simp only[iZ,YE,isNone,bR,ca];simp only[Nat.reduceEqDiff,if_false,if_true,Bool.false_eq_true,BP,go]
 have hv:∀st,hL (ea ([Al L,Am ox]++bd) [(PI,G2)]) O ahS st=((fun l=>[((l.getD 0 (0,[])).2).getD 0 al.zero]) st.ad,st):=fun st=>by rw[aqp];simp only[ahS,hL,ca,if_true,BP,pG]
 have h:=H9 (B:=[Al L,Am ox]++bd) (O:=O) (e:=ahS) (wh:=YE) (s:=(PI,G2)) rfl (fun l=>decide (pP 16 (((l.getD 0 (0,[])).2).getD 1 al.zero) ⟨2,0,[101,118,101]⟩=2)) hk (fun l=>[((l.getD 0 (0,[])).2).getD 0 al.zero]) hv (by rw[atL];exact X);rw[atL] at h;unfold Uq AV;rw[h.1,h.2,Bool.or_false];have:∀l:je,(!((l.filter fun C=>decide (pP 16 ((([C].getD 0 (0,[])).2).getD 1 al.zero) ⟨2,0,[101,118,101]⟩=2)).map fun C=>([((([C].getD 0 (0,[])).2).getD 0 al.zero)],[[C]])).isEmpty)=l.any PM:=by
  intro l;induction l with
  | nil=>rfl
  | cons a C aH=>
   rw[List.filter_cons,List.any_cons];by_cases ak:PM a=true
   ·have:decide (pP 16 ((([a].getD 0 (0,[])).2).getD 1 al.zero) ⟨2,0,[101,118,101]⟩=2)=true:=ak;rw[if_pos this,ak];rfl
   ·have:¬decide (pP 16 ((([a].getD 0 (0,[])).2).getD 1 al.zero) ⟨2,0,[101,118,101]⟩=2)=true:=ak;rw[if_neg this,aH];simp[ak]
 exact this L
def awp(k:Nat)(a b:al):PM (k,[a,CN gU,b])=true:=by show decide (pP 16 (CN gU) _=2)=true;decide
def awq(k:Nat)(a b:al):PM (k,[a,CN vM,b])=false:=by show decide (pP 16 (CN vM) _=2)=false;decide
def YG(g:hG)(c:Nat)(eH:ByteArray):Sum Nat (List l7):=if hN (pq g.bY) eH≠0 then .inl (hN (pq g.bY) eH) else match hC eH with
 | none=>.inl 1
 | some x=>match oK g.bY g.dS (eM x.2) x.2 with
  | none=>.inl 6
  | some out=>if 60<=c then .inl 7 else .inr out
def atN(ae:hN td eH=0):∃x,hC eH=some x:=by
 cases aa:hC eH with
 | none=>
  have:kq eH [0]=1:=by unfold kq;rw[aa]
  unfold hN at ae;rw[if_pos (by rw[this];decide),this] at ae;cases ae
 | some x=>exact⟨x,rfl⟩
def apf(f:qh->n9->Bool)(s:ni)(hu:¬(cU.data.toList=[]\/jf cU.data.toList=false))(eH:ByteArray):(∃oC,oC≠0/\oC<=7/\YG s.ck s.ce.count eH=.inl oC/\gE f s cU eH=⟨oC,0,[],s⟩)\/(∃out,YG s.ck s.ce.count eH=.inr out/\apq s cU eH (nh cU s.ck.dS (hj (out.map (·.2))) s.ce)/\gE f s cU eH=if oa (f (nh cU s.ck.dS (hj (out.map (·.2))) s.ce)) s.nj≠0 then ⟨10,oa (f (nh cU s.ck.dS (hj (out.map (·.2))) s.ce)) s.nj,[],s⟩ else ⟨0,0,out,{s with ce:=nh cU s.ck.dS (hj (out.map (·.2))) s.ce}⟩):=by
 unfold gE YG;rw[if_neg hu];by_cases ae:hN (pq s.ck.bY) eH≠0
 ·rw[if_pos ae,if_pos ae];exact .inl ⟨_,ae,bX (avs _ _) K,rfl,rfl⟩
 ·rw[if_neg ae,if_neg ae];have zb:hN (pq s.ck.bY) eH=0:=by simpa using ae
  obtain⟨x,aa⟩:=atN zb;rw[aa];simp only[];cases ak:oK s.ck.bY s.ck.dS (eM x.2) x.2 with
  | none=>exact .inl ⟨6,K,K,rfl,rfl⟩
  | some out=>
   simp only[];by_cases ai:60<=s.ce.count
   ·rw[if_pos ai,if_pos ai];exact .inl ⟨7,K,K,rfl,rfl⟩
   ·rw[if_neg ai,if_neg ai];have hw:jf cU.data.toList=true:=by
     cases aa:jf cU.data.toList with
     | true=>rfl
     | false=>exact absurd (.inr aa) hu
    exact .inr ⟨out,rfl,⟨pq s.ck.bY,x.1,x.2,out,atI _,zb,aa,ak,r,hw,rfl⟩,rfl⟩
def awr(ok:hA N g)(fit:lw g)(cS:N<=1000000000){out:List l7}(h:YG g c eH=.inr out):VL out:=by
 unfold YG at h;split at h
 ·cases h
 ·rename_i ae;have zb:hN (pq g.bY) eH=0:=by simpa using ae
  obtain⟨x,aa⟩:=atN zb;rw[aa] at h;simp only[] at h;cases ak:oK g.bY g.dS (eM x.2) x.2 with
  | none=>rw[ak] at h;cases h
  | some o=>
   rw[ak] at h;simp only[] at h;split at h
   ·cases h
   ·injection h with h;subst h;exact avt ok fit cS (atI _) zb (ts:=x.1) (t:=x.2) aa ak
def aqq(e:Int):∀(aB L:je),(∀C∈aB,¬e<(C.1:Int))->(∀C∈L,e<(C.1:Int))->q0 e (aB++L)=L
 | [],[],_,_=>rfl
 | [],a::C,_,fa=>by unfold q0;rw[List.nil_append,List.findIdx?_cons,if_pos (decide_eq_true (fa a (List.mem_cons_self ..)))];rfl
 | a::aB,L,cr,fa=>by
  have aH:=aqq e aB L (fun C ag=>cr C (List.mem_cons_of_mem _ ag)) fa;unfold q0 at aH ⊢;rw[List.cons_append,List.findIdx?_cons,if_neg (by simpa using cr a (List.mem_cons_self ..))];cases av:(aB++L).findIdx? (fun C=>decide (e<(C.1:Int))) with
  | none=>rw[av] at aH;exact aH
  | some i=>rw[av] at aH;exact aH
def atP:JW AT.ce:=by
 have aw:JW ⟨[],[],0⟩:=⟨K,K,K,fun C ag=>absurd ag (List.not_mem_nil),fun C ag=>absurd ag (List.not_mem_nil)⟩;have h1:=aw.with (cU:=hS) (time:=0) (ts:=[(fL,1)]) K K K K K (fun t au=>by
  obtain rfl:=ic au;exact⟨K,K,K⟩)
 exact h1.with (cU:=hS) (time:=0) (ts:=[]) K K K K K (fun t au=>absurd au (List.not_mem_nil))
def aws:∀C∈AT.ce.log,¬(2:Int)<(C.1:Int):=by
 intro C ag;have:C.1=1\/C.1=2:=by
  have X:AT.ce.log=[(1,[iX 1,CN hS,iX 0]),(2,[iX 2,CN hS,iX 0])]:=by rfl
  rw[X] at ag;rcases List.mem_cons.1 ag with rfl | ag
  ·exact .inl rfl
  ·obtain rfl:=ic ag;exact .inr rfl
 omega
structure akb (cD:List (Int×Int)) (n:Nat) (p:n9) (s:ni):Prop where
 ck:s.ck=uM cD n
 nj:s.nj=[p]
 num:p.num=1
 since:p.since=2
 form:p.form=2
 two:2<=s.ce.count
 ce:JW s.ce
 log:∃L,s.ce.log=AT.ce.log++L/\∀C∈L,(2:Int)<(C.1:Int)/\PM C=false
structure akc (cD:List (Int×Int)) (n c:Nat) (bp:ni):Prop where
 ck:bp.ck=uM cD n
 nj:bp.nj=[]
 ce:JW bp.ce
 count:bp.ce.count=c
def jr(g:hG)(j:qh)(p:n9):Bool:=PH (fun _=>AV) g j p
def aqr(hs:p.since=2)(av:p.form=2)(aS:j.log.length<=20000){L:je}(X:j.log=AT.ce.log++L)(fa:∀C∈L,(2:Int)<(C.1:Int)):jr g j p=L.any PM:=by unfold jr PH A0 PU;rw[hs,av,if_pos rfl,X,show((2:Nat):Int)=2 from rfl,aqq 2 AT.ce.log L aws fa];refine awo L _ g.bY g.dS ?_;rw[X,cu] at aS;omega
def awt(ar:n<=12)(aa:akb cD n p s)(cn:akc cD n s.ce.count bp)(f:qh->n9->Bool)(eH:ByteArray):((gE (jr s.ck) s gU eH).FX=s/\(gE (jr s.ck) s gU eH).out=[]/\(gE (jr s.ck) s gU eH).qk≠0/\(gE (jr s.ck) s gU eH).qk<=10/\(((gE (jr s.ck) s gU eH).qk=10/\(gE (jr s.ck) s gU eH).Jt=1/\(gE f bp gU eH).qk=0)\/((gE (jr s.ck) s gU eH).qk≠10/\(gE (jr s.ck) s gU eH).Jt=0/\(gE f bp gU eH).qk≠0)))/\((gE (jr s.ck) s vM eH).qk=(gE f bp gU eH).qk/\(gE (jr s.ck) s vM eH).Jt=0/\(gE f bp gU eH).Jt=0/\(gE (jr s.ck) s vM eH).out=(gE f bp gU eH).out/\(gE f bp gU eH).qk<=10/\VL (gE f bp gU eH).out)/\akb cD n p (gE (jr s.ck) s vM eH).FX/\(gE (jr s.ck) s vM eH).FX.ce.count<=s.ce.count+1/\akc cD n (gE (jr s.ck) s vM eH).FX.ce.count (gE f bp gU eH).FX:=by
 obtain⟨bz,cz,fP,mq,Oh,KY,akd,L,ahT,ake⟩:=aa;obtain⟨h0,gR,lA,B6⟩:=cn;obtain⟨YJ,YK⟩:=PG cD n ar;have ok:hA (n+1) s.ck:=by rw[bz];exact YJ
 have fit:lw s.ck:=by rw[bz];exact YK
 have lX:s.ck.bY=[⟨fL,mA,AU cD n,n+1⟩]:=by rw[bz];rfl
 have akf:hA (n+1) bp.ck:=by rw[h0];exact YJ
 have akg:lw bp.ck:=by rw[h0];exact YK
 have ans:bp.ck.bY=[⟨fL,mA,AU cD n,n+1⟩]:=by rw[h0];rfl
 have eU:¬(gU.data.toList=[]\/jf gU.data.toList=false):=K;have bw:¬(vM.data.toList=[]\/jf vM.data.toList=false):=K;have FD:YG bp.ck bp.ce.count eH=YG s.ck s.ce.count eH:=by rw[bz,h0,B6]
 rcases apf (jr s.ck) s eU eH with⟨oC,Y,am,bm,hq⟩ | ⟨out,jH,k2,rk⟩
 ·rcases apf (jr s.ck) s bw eH with⟨awu,cN,bL,fS,jg⟩ | ⟨out,cN,_⟩
  ·rcases apf f bp eU eH with⟨awv,c1,c2,dZ,gp⟩ | ⟨out,c1,_⟩
   ·rw[bm] at fS;rw[FD,bm] at dZ;injection fS with fS;injection dZ with dZ;subst fS dZ;rw[hq,jg,gp];exact⟨⟨rfl,rfl,Y,by show oC<=10;omega,.inr ⟨by show oC≠10;omega,rfl,Y⟩⟩,⟨rfl,rfl,rfl,rfl,by show oC<=10;omega,avx⟩,⟨bz,cz,fP,mq,Oh,KY,akd,L,ahT,ake⟩,Nat.le_succ _,⟨h0,gR,lA,B6⟩⟩
   ·rw[FD,bm] at c1;cases c1
  ·rw[bm] at cN;cases cN
 ·rcases apf (jr s.ck) s bw eH with⟨awu,cN,bL,fS,jg⟩ | ⟨axi,cN,bL,fS⟩
  ·rw[jH] at fS;cases fS
  ·rcases apf f bp eU eH with⟨awv,c1,c2,dZ,gp⟩ | ⟨axj,c1,c2,dZ⟩
   ·rw[FD,jH] at dZ;cases dZ
   ·rw[jH] at cN;rw[FD,jH] at c1;injection cN with cN;injection c1 with c1;subst cN c1;have hx:=apA lX ok fit r akd k2;have dL:=apA lX ok fit r akd bL;have jk:=apA ans akf akg r lA c2;have bq:=hx.vc;have a2:=hx.log;have a3:=dL.vc;have a4:=dL.log;have YA:jr s.ck (nh gU s.ck.dS (hj (out.map (·.2))) s.ce) p=true:=by
     rw[aqr mq Oh r (L:=L++[(s.ce.count+1,[iX ((s.ce.count+1:Nat):Int),CN gU,iX s.ck.dS])]) (by show s.ce.log++[_]=_;rw[ahT,List.append_assoc]) (fun C ag=>?_)]
     ·rw[List.any_append];rw[show [(s.ce.count+1,[iX ((s.ce.count+1:Nat):Int),CN gU,iX s.ck.dS])].any PM=true from by rw[List.any_cons,awp];rfl,Bool.or_true]
     ·rcases List.mem_append.1 ag with ag | ag
      ·exact(ake C ag).1
      ·obtain rfl:=ic ag;show(2:Int)<((s.ce.count+1:Nat):Int);omega
    have aoy:∀C∈L++[(s.ce.count+1,[iX ((s.ce.count+1:Nat):Int),CN vM,iX s.ck.dS])],(2:Int)<(C.1:Int)/\PM C=false:=fun C ag=>by
     rcases List.mem_append.1 ag with ag | ag
     ·exact ake C ag
     ·obtain rfl:=ic ag;exact⟨by show(2:Int)<((s.ce.count+1:Nat):Int);omega,awq _ _ _⟩
    have aww:jr s.ck (nh vM s.ck.dS (hj (out.map (·.2))) s.ce) p=false:=by rw[aqr mq Oh r (L:=L++[(s.ce.count+1,[iX ((s.ce.count+1:Nat):Int),CN vM,iX s.ck.dS])]) (by show s.ce.log++[_]=_;rw[ahT,List.append_assoc]) (fun C ag=>(aoy C ag).1)];rw[List.any_eq_false];intro C ag;rw[(aoy C ag).2];decide
    have awx:oa (jr s.ck (nh gU s.ck.dS (hj (out.map (·.2))) s.ce)) s.nj=1:=by rw[cz,oa,YA,if_pos rfl,fP]
    have awI:oa (jr s.ck (nh vM s.ck.dS (hj (out.map (·.2))) s.ce)) s.nj=0:=by rw[cz,oa,aww];rfl
    have awJ:oa (f (nh gU bp.ck.dS (hj (out.map (·.2))) bp.ce)) bp.nj=0:=by rw[gR];rfl
    rw[awx,if_pos K] at rk;rw[awI,if_neg K] at fS;rw[awJ,if_neg K] at dZ;rw[rk,fS,dZ];refine⟨⟨rfl,rfl,by show(10:Nat)≠0;decide,by show(10:Nat)<=10;decide,.inl ⟨rfl,rfl,rfl⟩⟩,⟨rfl,rfl,rfl,rfl,by show(0:Nat)<=10;decide,awr ok fit r jH⟩,⟨bz,cz,fP,mq,Oh,by show 2<=s.ce.count+1;omega,dL,_,by show s.ce.log++[_]=_;rw[ahT,List.append_assoc],aoy⟩,ap,⟨h0,gR,jk,by show bp.ce.count+1=s.ce.count+1;rw[B6]⟩⟩
def um:ByteArray:=⟨#[97]⟩
def xp:ByteArray:=⟨#[120]⟩
def vJ:aL:=.node 1 um xp al.zero .nil .nil
def PO:aL:=.cons vJ .nil
def adZ:t2=.query PO [(fL,um)] .nil .nil .nil:=ax
def Cb(st:az):BP [⟨um,mA⟩] st um xp=((st.ad.getD 0 (0,[])).2).getD 0 al.zero:=by have:L0 [⟨um,mA⟩] um xp=some (0,0,1):=ax;unfold BP;rw[this]
def ad1(O:Int)(st:az):hL [⟨um,mA⟩] O PO st=([((st.ad.getD 0 (0,[])).2).getD 0 al.zero],st):=by simp only[PO,vJ,hL,ca,if_true];rw[Cb]
def YV{cm:je}(p:je->Bool)(b1:gC B (fL,um)=cm)(eU:ea B [(fL,um)]=[⟨um,mA⟩])(hk:∀st,iZ (bR B O wh [⟨um,mA⟩]) wh st=(p st.ad,st))(ar:cm.length<=20000):oK B O [(fL,um)] (.query PO [(fL,um)] wh .nil .nil)=some ((kM pg ((cm.filter fun C=>p [C]).map fun C=>([C.2.getD 0 al.zero],[(fL,(C.1:Int))]))).map nF):=by
 have h:=H9 (B:=B) (O:=O) (e:=PO) (wh:=wh) (s:=(fL,um)) rfl p (by rw[eU];exact hk) (fun l=>[((l.getD 0 (0,[])).2).getD 0 al.zero]) (by rw[eU];exact ad1 O) (by rw[b1];exact ar);rw[b1] at h;unfold oK;rw[h.2,h.1,if_neg K,List.map_map];congr 3;apply List.map_congr_left;intro C _;show lG [(fL,um)] ([C.2.getD 0 al.zero],[[C]])=_;unfold lG;rw[show iO [(fL,um)] [[C]] [(fL,um)].length=[(fL,(C.1:Int))] from rfl,Yf]
def cls(c:Int):Nat:=if 10<=qZ c 12 then 0 else qZ c 12+1
def aqs(j:Nat):ByteArray:=if j=0 then JG else im ((j:Int)-4)
def AX(j:Nat):al:=if j=0 then al.zero else ⟨1,(j:Int)-4,[]⟩
def ahU(c:Int):cls c<11:=by have:=(F7 (c:=c) (n:=12) K).2;unfold cls;split<;>omega
def awK:∀k,k<12->(fy (JK k).data.toList).1=AX (if 10<=k then 0 else k+1):=by
 intro k hk;rcases(by omega:k=0\/k=1\/k=2\/k=3\/k=4\/k=5\/k=6\/k=7\/k=8\/k=9\/k=10\/k=11) with rfl | rfl | rfl | rfl | rfl | rfl | rfl | rfl | rfl | rfl | rfl | rfl
 all_goals kernel_rfl
def aqt(c:Int):CW c=AX (cls c):=awK (qZ c 12) (F7 K).2
def awL:∀j,j<11->a7 (iI (AX j))=aqs j:=by
 intro k hk;rcases(by omega:k=0\/k=1\/k=2\/k=3\/k=4\/k=5\/k=6\/k=7\/k=8\/k=9\/k=10) with rfl | rfl | rfl | rfl | rfl | rfl | rfl | rfl | rfl | rfl | rfl
 all_goals kernel_rfl
def awM:∀j,j<11->∀i,i<j->jo (AX j) (AX i)=1:=by decide +kernel
def awN:∀j,j<11->jo (AX j) (AX j)=0:=by decide +kernel
def ph(cD:List (Int×Int))(k:Nat):Nat:=cls (cD.getD k (0,0)).1
def VM(cD:List (Int×Int))(k:Nat):h8:=([AX (ph cD k)],[(fL,((k+2:Nat):Int))])
def aqu(cD:List (Int×Int)):∀n,AU cD n=(List.range n).map fun k=>(k+2,[CW (cD.getD k (0,0)).1,CX (cD.getD k (0,0)).2])
 | 0=>rfl
 | n+1=>by rw[AU,aqu cD n,List.range_succ,List.map_append];rfl
def VN(cD:List (Int×Int))(n:Nat)(P:Nat->Bool)(m:Nat):List Nat:=(List.range m).flatMap fun j=>(List.range n).filter fun k=>decide (ph cD k=j)&&P j
def aqw(c:Nat->Nat)(l:List Nat):∀m,((List.range m).flatMap fun j=>l.filter fun k=>decide (c k=j)).Perm (l.filter fun k=>decide (c k<m))
 | 0=>by
  have:(l.filter fun k=>decide (c k<0))=[]:=by apply List.filter_eq_nil_iff.2;intro a _;simp
  rw[this];exact List.Perm.refl _
 | m+1=>by
  rw[List.range_succ,List.flatMap_append];have h1:=aqw c l m;have H:=List.filter_append_perm (fun k=>decide (c k<m)) (l.filter fun k=>decide (c k<m+1));refine List.Perm.trans ?_ H;have Y:(l.filter fun k=>decide (c k<m+1)).filter (fun k=>decide (c k<m))=l.filter fun k=>decide (c k<m):=by
   rw[List.filter_filter];congr 1;funext k;by_cases h:c k<m
   ·simp[h];omega
   ·simp[h]
  have am:(l.filter fun k=>decide (c k<m+1)).filter (fun k=>!decide (c k<m))=l.filter fun k=>decide (c k=m):=by
   rw[List.filter_filter];congr 1;funext k;by_cases h:c k=m
   ·simp[h]
   ·simp[h];omega
  rw[Y,am];simp only[List.flatMap_cons,List.flatMap_nil,List.append_nil];exact h1.append_right _
def awO(cD:List (Int×Int))(n:Nat)(P:Nat->Bool):kM pg (((List.range n).filter fun k=>P (ph cD k)).map (VM cD))=(VN cD n P 11).map (VM cD):=by
 symm;refine UI UG (fun x y h=>ahO h) (List.Perm.map _ ?_) ?_
 ·have h:=aqw (ph cD) ((List.range n).filter fun k=>P (ph cD k)) 11;have Y:((List.range n).filter fun k=>P (ph cD k)).filter (fun k=>decide (ph cD k<11))=(List.range n).filter fun k=>P (ph cD k):=by apply List.filter_eq_self.2;intro a _;exact decide_eq_true (ahU _)
  rw[Y] at h;refine List.Perm.trans (List.Perm.of_eq ?_) h;unfold VN;congr 1;funext j;rw[List.filter_filter];congr 1;funext k;by_cases aS:ph cD k=j
  ·simp[aS]
  ·simp[aS]
 ·unfold Ak;rw[List.pairwise_map];have aj:(VN cD n P 11).Pairwise fun a b=>ph cD a<ph cD b\/(ph cD a=ph cD b/\a<b):=by
   unfold VN;rw[List.pairwise_flatMap];refine⟨fun j _=>?_,?_⟩
   ·have aw:((List.range n).filter fun k=>decide (ph cD k=j)&&P j).Pairwise (· < ·):=List.Pairwise.filter _ List.pairwise_lt_range;refine List.Pairwise.imp_of_mem ?_ aw;intro a b ak A pA;have h1:=(List.mem_filter.1 ak).2;have H:=(List.mem_filter.1 A).2;rw[Bool.and_eq_true,decide_eq_true_eq] at h1 H;exact .inr ⟨h1.1.trans H.1.symm,pA⟩
   ·refine List.Pairwise.imp ?_ List.pairwise_lt_range;intro i j tQ a ak b A;have h1:=(List.mem_filter.1 ak).2;have H:=(List.mem_filter.1 A).2;rw[Bool.and_eq_true,decide_eq_true_eq] at h1 H;left;rw[h1.1,H.1];exact tQ
  refine List.Pairwise.imp ?_ aj;intro a b pA;have X:ph cD b<11:=ahU _;unfold pg sR VM;dsimp only;rcases pA with h | ⟨h,cC⟩
  ·have h1:gl jo [AX (ph cD b)] [AX (ph cD a)]=1:=by simp[gl,awM _ X _ h]
   rw[if_neg (by rw[h1];decide),h1];decide
  ·have h1:gl jo [AX (ph cD b)] [AX (ph cD a)]=0:=by rw[h];simp[gl,awN _ X]
   have ai:hf (fL,((b+2:Nat):Int)) (fL,((a+2:Nat):Int))=1:=by
    unfold hf sR;have c7:tW fL.data.toList fL.data.toList=0:=K;have Y:pO ((b+2:Nat):Int) ((a+2:Nat):Int)=1:=by unfold pO;rw[if_neg r,if_pos r]
    dsimp only;rw[if_pos c7,Y]
   have H:gl hf [(fL,((b+2:Nat):Int))] [(fL,((a+2:Nat):Int))]=1:=by rw[gl,if_neg (by rw[ai];decide),ai]
   rw[if_pos h1,H];decide
def anr(cm:je)(k:Nat):hN (pq [⟨fL,mA,cm,k⟩]) CV=0:=ax
def awP(cD:List (Int×Int))(n:Nat):gC (uM cD n).bY (fL,um)=AU cD n:=ax
def awQ(cD:List (Int×Int))(n:Nat):ea (uM cD n).bY [(fL,um)]=[⟨um,mA⟩]:=ax
def YF(cD:List (Int×Int))(n:Nat)(P:Nat->Bool):List l7:=(VN cD n P 11).map fun k=>([aqs (ph cD k)],[(fL,((k+2:Nat):Int))])
def awR(cD:List (Int×Int))(n:Nat)(P:Nat->Bool):((VN cD n P 11).map (VM cD)).map nF=YF cD n P:=by unfold YF;rw[List.map_map];apply List.map_congr_left;intro k _;show([a7 (iI (AX (ph cD k)))],[(fL,((k+2:Nat):Int))])=_;rw[awL (ph cD k) (ahU _)]
def awS(cD:List (Int×Int))(n:Nat)(p:je->Bool)(P:Nat->Bool)(h:∀k v x,v<11->p [(k,[AX v,x])]=P v):((AU cD n).filter fun C=>p [C]).map (fun C=>([C.2.getD 0 al.zero],[(fL,(C.1:Int))]))=((List.range n).filter fun k=>P (ph cD k)).map (VM cD):=by
 rw[aqu,List.filter_map,List.map_map];congr 1
 ·funext k;show([CW _],_)=VM cD k;rw[aqt];rfl
 ·congr 1;funext k;show p [(k+2,[CW _,CX _])]=_;rw[aqt];exact h (k+2) _ _ (ahU _)
def awT(cD:List (Int×Int))(n:Nat)(ar:n<=12):oK (uM cD n).bY 0 [(fL,um)] (.query PO [(fL,um)] .nil .nil .nil)=some (YF cD n fun _=>true):=by rw[YV (fun _=>true) (awP cD n) (awQ cD n) (fun st=>rfl) (by rw[Yl];omega),awS cD n (fun _=>true) (fun _=>true) (fun _ _ _ _=>rfl),awO cD n (fun _=>true),awR]
def aqY(w:World)(v:Value)(texts:e4):Prop:=(∃a af,v=.slice a texts.length af/\(texts=[]\/∃g off,a=some ⟨g,off,none⟩/\g<w.heap.size/\∀i (h:i<texts.length),dp w g (off+i)=some (.string texts[i])))/\texts.length<=1048576
def DT(w:World)(cN bL:Nat)(cD:List (Int×Int))(n k:Nat)(W:World):Prop:=∃s bp p,gQ w cN s bL bp W/\akb cD n p s/\akc cD n s.ce.count bp/\Il (uM cD n).bY p AV W/\s.ce.count<=2+k
def DT.below{w W aU:World}{cN bL n k:Nat}{cD:List (Int×Int)}(h:DT w cN bL cD n k W)(A:Below W.heap.size W aU):DT w cN bL cD n k aU:=by obtain⟨s,bp,p,h1,H,ab,aK,cO⟩:=h;exact⟨s,bp,p,h1.below A,H,ab,aK.below A,cO⟩
def awU(h:fW 0 W (.slice a n c) []):n=0:=by obtain⟨bE,C,bN,_⟩:=h;obtain⟨nB,e7,q1⟩:=cG C;injection q1 with _ q1 _;rw[q1,bN];rfl
def awV(ar:n<=12)(h:DT w cN bL cD n k W)(eH:ByteArray):∃(eE PX JN C2:Nat) (PP:List l7),(PX≠0/\PX<=10/\C2<=10/\VL PP)/\((PX=10/\JN=1/\C2=0)\/(PX≠10/\JN=0/\C2≠0))/\(∀aU,Below W.heap.size W aU->ey 8 #[M cN] aU fun e w'=>e=.returned (q (eE:Int))/\Hid (Below aU.heap.size aU w'))/\(∀aU,Below W.heap.size W aU->ey 9 #[M cN,.string gU,.string eH] aU fun e w'=>∃a c,e=.returned (.tuple #[.agg #[.slice a 0 c,q (JN:Int)],q (PX:Int)])/\Hid (Below w.heap.size w w'/\(∀h5,Below w'.heap.size w' h5->ey 8 #[M cN] h5 fun e S=>e=.returned (q (eE:Int))/\Hid (Below h5.heap.size h5 S))/\(∀h5,Below w'.heap.size w' h5->ey 9 #[M cN,.string vM,.string eH] h5 fun e aA=>∃a m c,e=.returned (.tuple #[.agg #[.slice a m c,q 0],q (C2:Int)])/\Hid (Below w.heap.size w aA/\fW 0 aA (.slice a m c) PP/\(∀lu,Below aA.heap.size aA lu->ey 9 #[M bL,.string gU,.string eH] lu fun e bI=>∃a m c,e=.returned (.tuple #[.agg #[.slice a m c,q 0],q (C2:Int)])/\Hid (fW 0 bI (.slice a m c) PP/\ki lu bI/\DT w cN bL cD n (k+1) bI)))))):=by
 obtain⟨s,bp,p,h1,H,ab,aK,cO⟩:=h;obtain⟨⟨bq,a2,a3,a4,a5⟩,⟨c1,c2,dZ,gp,fO,jy⟩,d1,d2,d3⟩:=awt ar H ab (jr bp.ck) eH;obtain⟨YJ,YK⟩:=PG cD n ar;have ok:hA (n+1) s.ck:=by rw[H.ck];exact YJ
 have fit:lw s.ck:=by rw[H.ck];exact YK
 have lX:s.ck.bY=[⟨fL,mA,AU cD n,n+1⟩]:=by rw[H.ck];rfl
 have akf:hA (n+1) bp.ck:=by rw[ab.ck];exact YJ
 have akg:lw bp.ck:=by rw[ab.ck];exact YK
 have ans:bp.ck.bY=[⟨fL,mA,AU cD n,n+1⟩]:=by rw[ab.ck];rfl
 have mn:s.nj.length<=100:=by rw[H.nj];show 1<=100;omega
 have Ui:bp.nj.length<=100:=by rw[ab.nj];show 0<=100;omega
 have apG:∀aU,Il (uM cD n).bY p AV aU->∀U∈s.nj,Il s.ck.bY U AV aU:=fun aU aj U ae=>by rw[H.nj] at ae;obtain rfl:=ic ae;rw[H.ck];exact aj
 have awW:∀aU,∀U∈bp.nj,Il bp.ck.bY U AV aU:=fun aU U ae=>by rw[ab.nj] at ae;cases ae
 refine⟨s.ce.count,(gE (jr s.ck) s gU eH).qk,(gE (jr s.ck) s gU eH).Jt,(gE (jr bp.ck) bp gU eH).qk,(gE (jr bp.ck) bp gU eH).out,⟨a3,a4,fO,jy⟩,a5,fun aU A=>aqo (h1.below A),fun aU A=>?_⟩;refine(ahQ (h1.below A) ok fit r lX H.ce mn (fun _=>AV) (apG aU (aK.below A)) gU eH K).mono ?_;rintro e w' ⟨a,m,c,rfl,ct⟩;obtain⟨jH,k2,rk⟩:=ct.out;have aq1:fW 0 w' (.slice a m c) (gE (jr s.ck) s gU eH).out:=jH;have ajS:gQ w cN (gE (jr s.ck) s gU eH).FX bL bp w':=k2;rw[a2] at aq1;rw[bq] at ajS;obtain rfl:=awU aq1;have pG:=(aK.below A).aaX rk;refine⟨a,c,rfl,u ⟨ajS.ho,fun h5 ah=>aqo (ajS.below ah),fun h5 ah=>?_⟩⟩;refine(ahQ (ajS.below ah) ok fit r lX H.ce mn (fun _=>AV) (apG h5 (pG.below ah)) vM eH K).mono ?_;rintro e aA ⟨a,m,c,rfl,ct⟩
 obtain⟨cX,cA,hy⟩:=ct.out;have aq2:fW 0 aA (.slice a m c) (gE (jr s.ck) s vM eH).out:=cX;have Uj:gQ w cN (gE (jr s.ck) s vM eH).FX bL bp aA:=cA;have Y:(gE (PH (fun _=>AV) s.ck) s vM eH).qk=(gE (jr bp.ck) bp gU eH).qk:=c1;have am:(gE (PH (fun _=>AV) s.ck) s vM eH).Jt=0:=c2;rw[gp] at aq2;refine⟨a,m,c,by rw[Y,am];rfl,u ⟨Uj.ho,aq2,fun lu cg=>?_⟩⟩;have go:=(pG.below ah).aaX hy;refine(ahQ (Uj.below cg).swap akf akg r ans ab.ce Ui (fun _=>AV) (awW lu) gU eH K).mono ?_;rintro e bI ⟨a,m,c,rfl,ct⟩;obtain⟨t1,t2,t3⟩:=ct.out;have bm:(gE (PH (fun _=>AV) bp.ck) bp gU eH).Jt=0:=dZ;exact⟨a,m,c,by rw[bm];rfl,u ⟨t1,t3,_,_,p,t2.swap,d1,d3,(go.below cg).aaX t3,r⟩⟩
def awX(ar:n<=12)(h:gQ w cN (mB cD n) bL (mB cD n) W):ey 7 #[M cN,.string UP] W fun e aU=>e=.returned (.tuple #[q 1,q 0])/\Hid (DT w cN bL cD n 0 aU):=by obtain⟨YJ,YK⟩:=PG cD n ar;refine(avy h YJ (by show 0<6;omega) (by show 0<=1000000;omega) UP (awn _ _ _ _ _)).mono ?_;rintro e aU ⟨rfl,aa⟩;obtain⟨ts,t,x,q1,bN,fR,iK⟩:=aa.out;obtain⟨rfl,f1,f2⟩:=awj ts t q1;refine⟨rfl,u ⟨_,_,_,fR,⟨rfl,rfl,rfl,rfl,f1,by show 2<=AT.ce.count;decide,atP,[],by show AT.ce.log=AT.ce.log++[];rw[List.append_nil],fun C ag=>by cases ag⟩,⟨rfl,rfl,atP,rfl⟩,bN (by rw[f2];decide),by show AT.ce.count<=2+0;decide⟩⟩
def awY(ar:n<=12)(hk:k<=20)(h:DT w cN bL cD n k W):ey 11 #[M cN,q 1] W fun e J=>e=.returned (q 0)/\Hid (ey 11 #[M cN,q 1] J fun e S=>e=.returned (q 8)/\Hid (ey 9 #[M cN,.string gU,.string CV] S fun e aA=>∃a m c,e=.returned (.tuple #[.agg #[.slice a m c,q 0],q 0])/\Hid (Below w.heap.size w aA))):=by
 obtain⟨s,bp,p,h1,H,ab,aK,cO⟩:=h;obtain⟨YJ,YK⟩:=PG cD n ar;have sN:AW s.nj 1=some 0:=by unfold AW;rw[H.nj,List.findIdx?_cons,if_pos (by rw[H.num];rfl)]
 have bb:Ge s.nj 1=[]:=by unfold Ge;rw[sN,H.nj];rfl
 refine(aqn h1 (by rw[H.nj];show 1<=100;omega) 1).mono ?_;rintro e J ⟨rfl,aa⟩;obtain⟨aI,aZ⟩:=aa.out;rw[bb] at aI;refine⟨by rw[sN];rfl,u ?_⟩;refine(aqn aI bu 1).mono ?_;rintro e S ⟨rfl,cn⟩;obtain⟨m1,m2⟩:=cn.out;refine⟨rfl,u ?_⟩;have ok:hA (n+1) s.ck:=by rw[H.ck];exact YJ
 have fit:lw s.ck:=by rw[H.ck];exact YK
 have lX:s.ck.bY=[⟨fL,mA,AU cD n,n+1⟩]:=by rw[H.ck];rfl
 refine(ahQ m1 ok fit r lX H.ce bu (fun _=>AV) (fun U ae=>by cases ae) gU CV K).mono ?_;rintro e aA ⟨a,m,c,rfl,ct⟩;obtain⟨jH,k2,rk⟩:=ct.out;have xm:oK s.ck.bY s.ck.dS [(fL,um)] (.query PO [(fL,um)] .nil .nil .nil)=some (YF cD n fun _=>true):=by
  have ai:s.ck.dS=0:=by rw[H.ck];rfl
  rw[ai,H.ck];exact awT cD n ar
 have cn:=Yg (f:=PH (fun _=>AV) s.ck) (s:={ck:=s.ck,ce:=s.ce,nj:=Ge [] 1,last:=s.last}) (cU:=gU) (eH:=CV) (t:=.query PO [(fL,um)] .nil .nil .nil) (out:=YF cD n fun _=>true) K (by show hN (pq s.ck.bY) CV=0;rw[lX];exact anr _ _) (by rw[<-adZ];exact aoS) xm (by show s.ce.count<60;omega) rfl;refine⟨a,m,c,?_,u k2.ho⟩;have key:∀(aB:XH) (o:List l7) (dB:ni),aB=⟨0,0,o,dB⟩->Ending.returned (.tuple #[.agg #[.slice a m c,q (aB.Jt:Int)],q (aB.qk:Int)])=.returned (.tuple #[.agg #[.slice a m c,q 0],q 0]):=by rintro _ o dB rfl;rfl
 exact key _ _ _ cn
def awZ(cD:List (Int×Int))(uN:Value)(texts:e4)(aE:Value)(bad:Int)(w:World)(dh:Ground w)(hit:CY w uN cD)(W3:aqY w aE texts):ey 3 #[uN,aE,q bad] w fun e w'=>e=.returned (.bool true)/\Below w.heap.size w w':=by
 have ajV:min cD.length 12<=12:=Nat.min_le_right _ _;have tV:Hid (ey 6 #[uN] w fun e J=>∃b,e=.returned (M b)/\Hid (gF w b (mB cD (min cD.length 12)) J)):=u ((YO cD uN w dh hit).mono (by
  rintro e J ⟨b,rfl,hk⟩;exact⟨b,rfl,u hk⟩))
 have JP:Hid (∀J cN,gF w cN (mB cD (min cD.length 12)) J->ey 6 #[uN] J fun e S=>∃b,e=.returned (M b)/\Hid (gQ w cN (mB cD (min cD.length 12)) b (mB cD (min cD.length 12)) S)):=u (fun J cN h1=>(YO cD uN J h1.xo (hit.below h1.ho)).mono (by
  rintro e S ⟨b,rfl,hk⟩;exact⟨b,rfl,u (gQ.of h1 hk)⟩))
 clear hit dh;generalize min cD.length 12=Yp at *;have apF:Hid (∀W cN bL,gQ w cN (mB cD Yp) bL (mB cD Yp) W->ey 7 #[M cN,.string ⟨#[101,118,101,114,32,115,101,108,101,99,116,32,113,46,105,100,32,102,114,111,109,32,108,111,103,32,113,32,119,104,101,114,101,32,113,46,117,115,101,114,32,61,32,39,101,118,101,39]⟩] W fun e aU=>e=.returned (.tuple #[q 1,q 0])/\Hid (DT w cN bL cD Yp 0 aU)):=u (fun W cN bL h=>awX ajV h)
 have nC:Hid (∀W cN bL k,k<=20->DT w cN bL cD Yp k W->ey 11 #[M cN,q 1] W fun e J=>e=.returned (q 0)/\Hid (ey 11 #[M cN,q 1] J fun e S=>e=.returned (q 8)/\Hid (ey 9 #[M cN,.string ⟨#[101,118,101]⟩,.string ⟨#[115,101,108,101,99,116,32,97,46,120,32,102,114,111,109,32,116,32,97]⟩] S fun e aA=>∃a m c,e=.returned (.tuple #[.agg #[.slice a m c,q 0],q 0])/\Hid (Below w.heap.size w aA)))):=u (fun W cN bL k hk h=>awY ajV hk h);have H3:=u (fun (W:World) (cN bL k:Nat) (h:DT w cN bL cD Yp k W) (eH:ByteArray)=>awV ajV h eH);obtain⟨⟨bt,bD,rfl,aq3⟩,tU⟩:=W3;have OH:=u aq3;clear aq3 ajV;go_enter func3,ntmps3;go_upto_region 9 with(first
  | (go_at_call 7;refine(apF.out S cN bL iH.out).mono ?_;rintro e aA ⟨rfl,l2⟩)
  | (go_at_call 6;refine(JP.out J cN H1.out).mono ?_;rintro e S ⟨bL,rfl,iH⟩)
  | (go_at_call 6;refine tV.out.mono ?_;rintro e J ⟨cN,rfl,H1⟩))
 clear tV JP apF H1 iH;go_loopg [11,12,13,14,15,16,17,18,19,20,21] 21 (fun U gr v12 axk axl av6 av7 v17 av8 av9 v20 v21 wr=>∃k:Nat,k<=texts.length/\k<=20/\gr=q (k:Int)/\Hid (DT w cN bL cD Yp k wr)/\20-k<U);case atStart=>exact⟨0,bu,bu,rfl,l2,r⟩
 case round=>
  obtain⟨k,bZ,dR,rfl,bw,ae⟩:=hrel;by_cases aD:k<texts.length/\k<20
  ·obtain⟨apL,hE⟩:=aD;have awa:(k:Int)<(texts.length:Int):=r;have uE:(k:Int)<20:=r;obtain⟨g,off,rfl,R,iV⟩:∃g off,bt=some ⟨g,off,none⟩/\g<w.heap.size/\∀i (h:i<texts.length),dp w g (off+i)=some (.string texts[i]):=by
    rcases OH.out with h | h
    ·rw[h] at apL;exact absurd apL (fp _)
    ·exact h
   have XY:Hid (∀aU:World,Below w.heap.size w aU->dp aU g (off+k)=some (.string texts[k])):=u (fun aU A=>(A.cell (p:=⟨g,off+k,none⟩) R).trans (iV k apL));have hK:Below w.heap.size w wr:=by obtain⟨s,bp,p,h1,_⟩:=bw.out;exact h1.ho
   obtain⟨eE,PX,JN,C2,PP,⟨f1,f2,f3,f4⟩,aq4,gu,fG⟩:=H3.out wr cN bL k bw.out texts[k];unfold gU vM at fG;generalize texts[k]=amE at *;have sU:IntKind.i64.wrap ((k:Int)+1)=(k:Int)+1:=mC;have axm:((PX:Int)==0)=false:=cV.2 r;have H1:=u (gu wr (Below.refl _ _));have eo:=u fG;have kO:=u hK;have Ag:=u f4;have apb:=u f3;have aw0:∃q1 bN fR:Bool,((PX:Int)==10)=q1/\((JN:Int)==1)=bN/\((C2:Int)==0)=fR/\q1=bN/\fR=q1:=by
    rcases aq4 with⟨h1,H,ab⟩ | ⟨h1,H,ab⟩
    ·exact⟨true,true,true,by rw[h1];rfl,by rw[H];rfl,by rw[ab];rfl,rfl,rfl⟩
    ·exact⟨false,false,false,cV.2 r,by rw[H];rfl,cV.2 r,rfl,rfl⟩
   obtain⟨q1,bN,fR,pe,HG,JM,rfl,rfl⟩:=aw0;clear gu fG aq4 f1 f2 f3 f4 hK iV R bw OH apL hE;go_upto_region 12 with(go_at_call 8;refine H1.out.mono ?_;rintro e J ⟨rfl,jd⟩);have bz:=XY.out J (Below.fK kO.out jd.out);go_upto_region 13 with(go_at_call 9;refine(eo.out J jd.out).mono ?_;rintro e S ⟨dc,de,rfl,kh⟩);clear bz;have dF:Below S.heap.size S (S.alloc (.cells #[.slice dc 0 de,q (JN:Int)] 32)):=cT;have aT:=bH S (.cells #[.slice dc 0 de,q (JN:Int)] 32);obtain⟨ah,BR,Ud⟩:=kh.out;have IA:=u (Below.fK ah dF)
   have l2:Hid (ey 8 #[M cN] (S.alloc (.cells #[.slice dc 0 de,q (JN:Int)] 32)) fun e aA=>e=.returned (q (eE:Int))/\(dp aA S.heap.size 0=some (.slice dc 0 de)/\dp aA S.heap.size 1=some (q (JN:Int)))/\Hid (Below (S.alloc (.cells #[.slice dc 0 de,q (JN:Int)] 32)).heap.size (S.alloc (.cells #[.slice dc 0 de,q (JN:Int)] 32)) aA)):=u ((BR _ dF).mono (by
    rintro e aA ⟨rfl,cn⟩;have k:=Below.a8 cn.out aT;exact⟨rfl,⟨Z k (i:=0) rfl,Z k (i:=1) rfl⟩,cn⟩))
   have En:Hid (∀aA,Below (S.alloc (.cells #[.slice dc 0 de,q (JN:Int)] 32)).heap.size (S.alloc (.cells #[.slice dc 0 de,q (JN:Int)] 32)) aA->_):=u (fun aA h=>Ud aA (Below.fK dF h));clear BR Ud dF aT ah kh eo H1;generalize S.alloc (.cells #[.slice dc 0 de,q (JN:Int)] 32)=lu at *;generalize S.heap.size=axn at *;go_upto_region 16 with(go_at_call 8;refine l2.out.mono ?_;rintro e aA ⟨rfl,⟨bk,c1⟩,oO⟩);have fP:=XY.out aA (Below.fK IA.out oO.out);clear bk c1 l2;go_upto_region 17 with(go_at_call 9;refine(En.out aA oO.out).mono ?_;rintro e bI ⟨YH,m2,vL,rfl,pr⟩);clear fP En;have dF:Below bI.heap.size bI (bI.alloc (.cells #[.slice YH m2 vL,q 0] 32)):=cT;have aT:=bH bI (.cells #[.slice YH m2 vL,q 0] 32);obtain⟨lM,aq5,agP⟩:=pr.out;have afZ:=u (aq5.below dF);have aq6:=u (agP _ dF)
   have Oh:=XY.out _ (Below.fK lM dF);have rG:=u aT;clear dF aT lM aq5 agP pr;generalize bI.alloc (.cells #[.slice YH m2 vL,q 0] 32)=asG at *;generalize bI.heap.size=axo at *;go_upto_region 18 with(go_at_call 9;refine aq6.out.mono ?_;rintro e cw ⟨Ga,m3,Gd,rfl,aq7⟩);clear Oh aq6;have dF:Below cw.heap.size cw (cw.alloc (.cells #[.slice Ga m3 Gd,q 0] 32)):=cT;have aT:=bH cw (.cells #[.slice Ga m3 Gd,q 0] 32);obtain⟨aq8,aqv,aq9⟩:=aq7.out;have apd:=Below.a8 dF (aqv.other _ _ _ _ rG.out (F9 (.inr (.inr (.inr rfl)))));have afN:=u (aq9.below dF);have i0:=Z apd (i:=0) rfl;have i1:=Z apd (i:=1) rfl
   have at0:Hid (ey 10 #[.agg #[.slice YH m2 vL,q 0],q (C2:Int)] (cw.alloc (.cells #[.slice Ga m3 Gd,q 0] 32)) fun e zx=>e=.returned (.string (a7 (UO C2 0 PP)))/\(dp zx cw.heap.size 0=some (.slice Ga m3 Gd)/\dp zx cw.heap.size 1=some (q 0))/\Hid (Below (cw.alloc (.cells #[.slice Ga m3 Gd,q 0] 32)).heap.size (cw.alloc (.cells #[.slice Ga m3 Gd,q 0] 32)) zx)):=u ((apg (.slice YH m2 vL) 0 (C2:Int) PP _ ((ki.out aqv afZ.out).below dF) Ag.out K K r (by have:=apb.out;omega)).mono (by
    rintro e zx ⟨rfl,rO⟩;have k:=Below.a8 rO aT;exact⟨rfl,⟨Z k (i:=0) rfl,Z k (i:=1) rfl⟩,u rO⟩))
   have M4:Hid (∀zx,Below (cw.alloc (.cells #[.slice Ga m3 Gd,q 0] 32)).heap.size (cw.alloc (.cells #[.slice Ga m3 Gd,q 0] 32)) zx->ey 10 #[.agg #[.slice Ga m3 Gd,q 0],q (C2:Int)] zx fun e uZ=>e=.returned (.string (a7 (UO C2 0 PP)))/\Hid (Below zx.heap.size zx uZ)):=u (fun zx rO=>(apg (.slice Ga m3 Gd) 0 (C2:Int) PP zx ((aq8.below dF).below rO) Ag.out K K r (by have:=apb.out;omega)).mono (fun e uZ h=>⟨h.1,u h.2⟩));clear dF aT aq8 aqv aq9 apd aq7 afZ rG Ag apb;generalize cw.alloc (.cells #[.slice Ga m3 Gd,q 0] 32)=YS at *;generalize cw.heap.size=axp at *;generalize a7 (UO C2 0 PP)=vK at *;go_upto_region 20 with(first
    | (go_at_call 10;refine(M4.out zx ara.out).mono ?_;rintro e uZ ⟨rfl,aw1⟩)
    | (go_at_call 10;refine at0.out.mono ?_;rintro e zx ⟨rfl,⟨atH,hx⟩,ara⟩))
   clear at0 M4 i0 i1 atH hx;cases fR;all_goals
    go_wp2_with fail;go_roundg (gk-1);case measure=>omega
    case rel=>exact⟨k+1,r,r,by go_num,u ((afN.out.below ara.out).below aw1.out),r⟩
  ·have bK:=u (nC.out wr cN bL k dR bw.out);rcases(by omega:¬k<texts.length\/(k<texts.length/\¬k<20)) with h | ⟨h,cC⟩
   ·have vq:¬(k:Int)<(texts.length:Int):=r;have Y0:(texts.length:Int)<=(k:Int):=r;clear aD h bw nC H3;go_wp2_with (first
     | (go_at_call 9;refine Xz.out.mono ?_;rintro e z3 ⟨NA,aw2,Uo,rfl,Lu⟩)
     | (go_at_call 11;refine JS.out.mono ?_;rintro e z2 ⟨rfl,Xz⟩)
     | (go_at_call 11;refine bK.out.mono ?_;rintro e b3 ⟨rfl,JS⟩))
    go_ret;exact⟨rfl,Lu.out.alloc Lu.out.size _⟩
   ·have vq:(k:Int)<(texts.length:Int):=r;have Y0:¬(k:Int)<20:=r;have apy:(20:Int)<=(k:Int):=r;clear aD h cC bw nC H3;go_wp2_with (first
     | (go_at_call 9;refine Xz.out.mono ?_;rintro e z3 ⟨NA,aw2,Uo,rfl,Lu⟩)
     | (go_at_call 11;refine JS.out.mono ?_;rintro e z2 ⟨rfl,Xz⟩)
     | (go_at_call 11;refine bK.out.mono ?_;rintro e b3 ⟨rfl,JS⟩))
    go_ret;exact⟨rfl,Lu.out.alloc Lu.out.size _⟩
