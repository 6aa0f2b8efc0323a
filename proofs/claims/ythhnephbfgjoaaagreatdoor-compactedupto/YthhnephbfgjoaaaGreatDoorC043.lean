import Derived.Test.YthhnephbfgjoaaaGreatDoorC041
import Derived.Test.YthhnephbfgjoaaaGreatDoorC042
set_option maxHeartbeats 0
set_option maxRecDepth 100000
set_option linter.all false
namespace Go.Proofs.ax0
open Tryz
open bS
variable{s fu s1 s2 bp:ni}{eH sy cU:e6}{ts:e4}{t:aL}{W aU w w' S:World}{aB N b cN bL c form i k lo n since:Nat}{l:je}{F:Nat->Prop}{v:Value}{g:hG}{td:List eb}{iy:bG}{j:qh}{p:n9}{m:Nat×Nat}{O span:Int}{vK:Nat->aL}{cs:Array Value}
def fL:e6:=⟨#[116]⟩
def hS:e6:=⟨#[117]⟩
def F8:e6:=⟨#[120,58,105,44,121,58,116]⟩
def CU:e6:=⟨#[115,101,108,101,99,116,32,97,46,120,44,32,97,46,121,32,102,114,111,109,32,116,32,97]⟩
def CV:e6:=⟨#[115,101,108,101,99,116,32,97,46,120,32,102,114,111,109,32,116,32,97]⟩
def mA:List (e6×Nat):=[(⟨#[120]⟩,1),(⟨#[121]⟩,2)]
def PE:lL Eb fL F8=(0,⟨[⟨fL,mA,[],0⟩],0⟩):=ax
def Yb:mF ⟨[⟨fL,mA,[],0⟩],0⟩ fL [⟨#[55]⟩,⟨#[39,113,39]⟩]=(1,0,⟨[⟨fL,mA,[(1,[⟨1,7,[]⟩,⟨2,0,[113]⟩])],1⟩],0⟩):=ax
def Yc:pz ⟨[⟨fL,mA,[(1,[⟨1,7,[]⟩,⟨2,0,[113]⟩])],1⟩],0⟩ fL 1=(0,⟨[⟨fL,mA,[],1⟩],0⟩):=ax
def t1:aL:=((hC CU).getD ([],.nil)).2
def t2:aL:=((hC CV).getD ([],.nil)).2
def aoR:hC CU=some (((hC CU).getD ([],.nil)).1,t1):=ax
def aoS:hC CV=some (((hC CV).getD ([],.nil)).1,t2):=ax
def r9:List bG:=[⟨fL,mA,[(1,[⟨1,7,[]⟩,⟨2,0,[113]⟩])],1⟩]
def vI:List bG:=[⟨fL,mA,[],1⟩]
def aoT:hN (pq r9) CU=0:=ax
def aoU:hN (pq vI) CV=0:=ax
def aoV:(bR r9 0 t1 [] nG).2.1=[([⟨1,7,[]⟩,⟨2,0,[113]⟩],[[(1,[⟨1,7,[]⟩,⟨2,0,[113]⟩])]])]:=ax
def aoW:(bR r9 0 t1 [] nG).2.2.dE=false:=ax
def aoX:(bR vI 0 t2 [] nG).2.1=[]:=ax
def aoY:(bR vI 0 t2 [] nG).2.2.dE=false:=ax
def aoZ:iO (eM t1) [[(1,[⟨1,7,[]⟩,⟨2,0,[113]⟩])]] (eM t1).length=[(fL,1)]:=ax
def Yd{α:Type}(ew:α->α->Int)(a:α):kM ew [a]=[a]:=by unfold kM;exact List.mergeSort_singleton a
def Ye{α:Type}(ew:α->α->Int):kM ew ([]:List α)=[]:=by unfold kM;exact List.mergeSort_nil
def ao0(t:fo):p7 [t]=[t]:=rfl
def Yf(t:fo):hj [[t]]=[t]:=by unfold hj;rw[show([[t]]:List (List fo)).flatten=[t] from rfl,Yd,ao0]
def JH:List l7:=[([⟨#[55]⟩,⟨#[39,113,39]⟩],[(fL,1)])]
def ao1:oK r9 0 (eM t1) t1=some JH:=by unfold oK;rw[aoW,aoV,if_neg K,List.map_cons,List.map_nil];unfold lG;simp only[];rw[aoZ,Yf,Yd];kernel_rfl
def ao2:oK vI 0 (eM t2) t2=some []:=by unfold oK;rw[aoY,aoX,if_neg K,List.map_nil,Ye];rfl
def JI:ni:=⟨⟨r9,0⟩,⟨[],[],0⟩,[],0⟩
def JJ:ni:=⟨⟨vI,0⟩,nh hS 0 [(fL,1)] ⟨[],[],0⟩,[],0⟩
def AT:ni:=⟨⟨vI,0⟩,nh hS 0 [] (nh hS 0 [(fL,1)] ⟨[],[],0⟩),[],0⟩
def Yg{f:qh->n9->Bool}{out:List l7}(h1:¬(cU.data.toList=[]\/jf cU.data.toList=false))(H:hN (pq s.ck.bY) eH=0)(ab:hC eH=some (ts,t))(aK:oK s.ck.bY s.ck.dS (eM t) t=some out)(cO:s.jr.count<60)(cE:s.nj=[]):gE f s cU eH=⟨0,0,out,{s with jr:=nh cU s.ck.dS (hj (out.map (·.2))) s.jr}⟩:=by unfold gE;rw[if_neg h1,if_neg (by rw[H];exact fun h=>h rfl),ab];simp only[];rw[aK];simp only[];rw[if_neg r,cE,if_neg (fun h=>h rfl)]
def ao3:hj []=[]:=by unfold hj;rw[show([]:List (List fo)).flatten=[] from rfl,Ye];rfl
def ao4(f:qh->n9->Bool):gE f JI hS CU=⟨0,0,JH,⟨⟨r9,0⟩,nh hS 0 [(fL,1)] ⟨[],[],0⟩,[],0⟩⟩:=by have h:=Yg (f:=f) (s:=JI) (cU:=hS) K aoT aoR ao1 K rfl;have hu:hj (JH.map (·.2))=[(fL,1)]:=Yf _;rw[hu] at h;exact h
def ao5(f:qh->n9->Bool):gE f JJ hS CV=⟨0,0,[],AT⟩:=by have h:=Yg (f:=f) (s:=JJ) (cU:=hS) K aoU aoS ao2 K rfl;rw[show(([]:List l7).map (·.2))=[] from rfl,ao3] at h;exact h
open Go.RowKit Go.Sort Go.Shelf
def PF{a:Option Addr}{l:e4}(h:w.ownsRow lo 9 1 (.slice a n c) l.length (l.map Value.string))(i:Nat)(hi:i<l.length):∃g,a=some ⟨g,0,none⟩/\g<w.heap.size/\dp w g i=some (.string l[i]):=by obtain⟨nB,e7,e⟩:=cG h;injection e with Y am bm;subst Y am bm;obtain⟨g,e,R⟩:=vA h r;subst e;have bk:=h.cells rfl i (.string l[i]) (by rw[List.getElem?_map,fC hi];rfl);rw[Addr.add_lit,ax1] at bk;exact⟨g,rfl,R,bk⟩
def F9{t:TypeId}(h:t=46\/t=9\/t=84\/t=40):¬oM t:=by unfold oM;rcases h with rfl | rfl | rfl | rfl<;>decide
structure ki (W aU:World):Prop where
 size:W.heap.size<=aU.heap.size
 other:∀(k:Nat) (cs:Array Value) (t:TypeId) (m:Nat×Nat),W.heap[k]?=some (.cells cs t m)->¬oM t->aU.heap[k]?=some (.cells cs t m)
def ki.of(h:da F W aU)(hF:∀k,F k->oN W k/\8<=k):ki W aU:=⟨h.size,fun k cs t m e ar=>by
 refine(h.block k (jq e) (fun hk=>?_)).trans e;obtain⟨⟨fU,t',pQ,bo,Es⟩,_⟩:=hF k hk;rw[e] at bo;injection bo with bo;injection bo with _ bo;exact ar (bo▸Es)⟩
def ki.below(h:eB W aU):ki W aU:=⟨h.size,fun _ _ _ _ e _=>Below.a8 h e⟩
def ki.trans{a b c:World}(h:ki a b)(g:ki b c):ki a c:=⟨bX h.size g.size,fun k cs t m e ar=>g.other k cs t m (h.other k cs t m e ar) ar⟩
def ki.row(h:ki W aU){base:Nat}{e:TypeId}{size:Nat}{xs:List Value}(ar:¬oM e)(ag:W.ownsRow base e size v n xs):aU.ownsRow base e size v n xs:=by
 refine⟨ag.1,?_⟩;rcases ag.2 with aa | ⟨g,af,ay,rfl,X,en,rest⟩
 ·exact .inl aa
 ·exact .inr ⟨g,af,ay,rfl,X,h.other _ _ _ _ en ar,rest⟩
def ki.out{W aU:World}(h:ki W aU){v:Value}{out:List l7}(ct:fW 0 W v out):fW 0 aU v out:=by obtain⟨bE,h1,H,ab⟩:=ct;exact⟨bE,h.row (F9 (.inl rfl)) h1,H,fun i a b=>⟨h.row (F9 (.inr (.inl rfl))) (ab i a b).1,h.row (F9 (.inr (.inr (.inl rfl)))) (ab i a b).2⟩⟩
structure gF (w:World) (b:Nat) (s:ni) (W:World):Prop where
 own:∃F,nH F W b s/\∀k,F k->w.heap.size<=k
 ho:eB w W
 xo:Ground W
def gF.below{w W aU:World}{b:Nat}{s:ni}(h:gF w b s W)(A:eB W aU):gF w b s aU:=by obtain⟨⟨F,h1,H⟩,ab,aK⟩:=h;exact⟨⟨F,h1.aside (G:=fun _=>False) ⟨A.os,A.tape,A.output,A.size,fun k hk _=>A.block k hk⟩ (fun _ _=>id),H⟩,Below.fK ab A,aK.below A⟩
def gF.call(aw:∀k,F k->oN W k/\8<=k)(hF:∀k,F k->w.heap.size<=k)(A:eB w W)(R:Ground W)(bi:vE F W b fu aU):gF w b fu aU/\ki W aU:=by
 obtain⟨F',aI,aZ,a6⟩:=bi;refine⟨⟨⟨F',aI,fun U ae=>?_⟩,⟨a6.os.trans A.os,a6.tape.trans A.tape,a6.output.trans A.output,bX A.size a6.size,fun U ae=>?_⟩,R.anx a6 (fun U ae=>(aw U ae).2)⟩,ki.of a6 aw⟩
 ·rcases aZ U ae with h | h
  ·exact hF U h
  ·exact bX A.size h
 ·exact(a6.block U (e0 ae A.size) (fun x=>by have:=hF U x;omega)).trans (A.block U ae)
def ao6(h:gF w b s W)(ok:hA N s.ck)(name bl:e6)(ar:name.size<=2000000)(ai:bl.size<=2000000):ey 10 #[M b,.string name,.string bl] W fun e aU=>e=.returned (q ((lL s.ck name bl).1:Int))/\Hid (gF w b {s with ck:=(lL s.ck name bl).2} aU/\ki W aU):=by obtain⟨⟨F,h1,H⟩,ab,aK⟩:=h;refine(ant h1 aK.uJ.js ok aK.uJ name bl ar ai).mono ?_;rintro e aU ⟨rfl,bi⟩;exact⟨rfl,u (gF.call h1.1 H ab aK bi)⟩
def Yh(h:gF w b s W)(ok:hA N s.ck)(cS:N<=1000000000)(name:e6)(U af:Nat)(ba:e4)(hv:zG W U ba)(ae:U<W.heap.size)(X:ba.length<=2000000)(hs:∀t∈ba,t.size<=2000000):ey 11 #[M b,.string name,.slice (some ⟨U,0,none⟩) ba.length af] W fun e aU=>e=.returned (.tuple #[q ((mF s.ck name ba).1:Int),q ((mF s.ck name ba).2.1:Int)])/\Hid (gF w b {s with ck:=(mF s.ck name ba).2.2} aU/\ki W aU):=by obtain⟨⟨F,h1,H⟩,ab,aK⟩:=h;refine(anu h1 aK.uJ.js ok cS name U af ba hv ae X hs).mono ?_;rintro e aU ⟨rfl,bi⟩;exact⟨rfl,u (gF.call h1.1 H ab aK bi)⟩
def ao7(h:gF w b s W)(ok:hA N s.ck)(name:e6)(m:Int):ey 13 #[M b,.string name,q m] W fun e aU=>e=.returned (q ((pz s.ck name m).1:Int))/\Hid (gF w b {s with ck:=(pz s.ck name m).2} aU/\ki W aU):=by obtain⟨⟨F,h1,H⟩,ab,aK⟩:=h;refine(anv h1 aK.uJ.js ok name m).mono ?_;rintro e aU ⟨rfl,bi⟩;exact⟨rfl,u (gF.call h1.1 H ab aK bi)⟩
def Yi(h:gF w b s W)(ok:hA N s.ck)(fit:lw s.ck)(cU eH:e6)(hu:cU.size<=1000000)(oE:s.jr.log.length<=10000)(kv:s.jr.ng.length<=800000)(wq:s.jr.count<=1000000)(aj:s.nj=[]):ey 12 #[M b,.string cU,.string eH] W fun e aU=>∃a n c,e=.returned (.tuple #[.agg #[.slice a n c,q ((gE (fun _ _=>false) s cU eH).Jt:Int)],q ((gE (fun _ _=>false) s cU eH).qk:Int)])/\Hid (fW 0 aU (.slice a n c) (gE (fun _ _=>false) s cU eH).out/\gF w b (gE (fun _ _=>false) s cU eH).FX aU/\ki W aU):=by
 obtain⟨⟨F,h1,H⟩,ab,aK⟩:=h;refine(XV (fun _ _=>false) h1 ok fit aK cU eH hu oE kv wq (by rw[aj];exact bu) (fun p AK=>by rw[aj] at AK;cases AK)).mono ?_;rintro e aU ⟨a,n,c,rfl,ct,bi⟩;exact⟨a,n,c,rfl,u ⟨ct,gF.call h1.1 H ab aK bi⟩⟩
def ao8(w:World)(R:Ground w):ey 9 #[] w fun e W=>∃b,e=.returned (M b)/\Hid (gF w b Js W):=by refine(anw w R.uJ.js).mono ?_;rintro e W ⟨k,F,rfl,h1,H,ab⟩;exact⟨k,rfl,u ⟨⟨F,h1,H⟩,ab,R.below ab⟩⟩
def JK(k:Nat):e6:=if 10<=k then JG else im ((k:Int)-3)
def JL(k:Nat):e6:=if k=5 then JG else a7 (39::(([97,98,99,100,101]:List UInt8).take k++[39]))
def ao9:∀k,k<12->(fy (JK k).data.toList).2=true/\((fy (JK k).data.toList).1.kind=0\/(fy (JK k).data.toList).1.kind=1)/\(JK k).size<=30:=by decide +kernel
def apa:∀k,k<6->(fy (JL k).data.toList).2=true/\((fy (JL k).data.toList).1.kind=0\/(fy (JL k).data.toList).1.kind=2)/\(JL k).size<=30:=by decide +kernel
def CW(c:Int):al:=(fy (nk c).data.toList).1
def CX(c:Int):al:=(fy (nl c).data.toList).1
def Yj(c:Int):bS.valOf (nk c)=some (CW c)/\((CW c).kind=0\/(CW c).kind=1)/\(nk c).size<=30:=by have h:=ao9 (qZ c 12) (F7 K).2;refine⟨?_,h.2.1,h.2.2⟩;unfold bS.valOf;have h1:(fy (nk c).data.toList).2=true:=h.1;rw[h1,if_pos rfl];rfl
def Yk(c:Int):bS.valOf (nl c)=some (CX c)/\((CX c).kind=0\/(CX c).kind=2)/\(nl c).size<=30:=by have h:=apa (qZ c 6) (F7 K).2;refine⟨?_,h.2.1,h.2.2⟩;unfold bS.valOf;have h1:(fy (nl c).data.toList).2=true:=h.1;rw[h1,if_pos rfl];rfl
def AU(cD:List (Int×Int)):Nat->je
 | 0=>[]
 | k+1=>AU cD k++[(k+2,[CW (cD.getD k (0,0)).1,CX (cD.getD k (0,0)).2])]
def Yl(cD:List (Int×Int)):∀k,(AU cD k).length=k
 | 0=>rfl
 | k+1=>by rw[AU,cu,Yl cD k];rfl
def uM(cD:List (Int×Int))(k:Nat):hG:=⟨[⟨fL,mA,AU cD k,k+1⟩],0⟩
def mB(cD:List (Int×Int))(k:Nat):ni:=⟨uM cD k,AT.jr,[],0⟩
def Ym(cD:List (Int×Int))(k:Nat)(hk:k<12):mF (uM cD k) fL [nk (cD.getD k (0,0)).1,nl (cD.getD k (0,0)).2]=(k+2,0,uM cD (k+1)):=by
 have av:fD (uM cD k).bY fL=some 0:=by unfold uM fD;rfl
 have bi:od ⟨fL,mA,AU cD k,k+1⟩ [nk (cD.getD k (0,0)).1,nl (cD.getD k (0,0)).2]=(k+2,0,⟨fL,mA,AU cD (k+1),k+2⟩):=by
  obtain⟨bM,b9,_⟩:=Yj (cD.getD k (0,0)).1;obtain⟨J,S,_⟩:=Yk (cD.getD k (0,0)).2;unfold od;rw[if_pos (show [nk (cD.getD k (0,0)).1,nl (cD.getD k (0,0)).2].length=mA.length from rfl)];have ak:iq bS.valOf [nk (cD.getD k (0,0)).1,nl (cD.getD k (0,0)).2]=some [CW (cD.getD k (0,0)).1,CX (cD.getD k (0,0)).2]:=by rw[iq,bM,iq,J,iq];rfl
  rw[ak];have au:q7 [CW (cD.getD k (0,0)).1,CX (cD.getD k (0,0)).2] mA=true:=by unfold mA;rw[q7,q7,q7];rcases b9 with e | e<;>rcases S with bo | bo<;>rw[e,bo]<;>rfl
  simp only[];rw[au,if_pos rfl,if_neg (by rw[Yl];omega)];rfl
 rw[Ht av (by show 0<1;omega)];have R:(uM cD k).bY[0]'(by show 0<1;omega)=⟨fL,mA,AU cD k,k+1⟩:=rfl;rw[R,bi];rfl
def PG(cD:List (Int×Int)):∀k,k<=12->hA (k+1) (uM cD k)/\lw (uM cD k)
 | 0,_=>by
  refine⟨⟨by show 1<=6;omega,fun t au=>?_,by show(0:Int)<=0;omega,by show(0:Int)<=1000000000000;omega⟩,fun t au=>?_⟩
  ·obtain rfl:=ic (show t∈[_] from au);exact⟨by show 1<=2;omega,by show 2<=4;omega,bu,ap,fun c ai=>by
    have k4:c∈mA:=ai;unfold mA at k4;rcases List.mem_cons.1 k4 with rfl | k4
    ·exact .inl rfl
    ·obtain rfl:=ic k4;exact .inr rfl⟩
  ·obtain rfl:=ic (show t∈[_] from au);exact⟨fun C ag=>absurd ag (ax4),(show iP fL.data.toList=true by decide),fun C ag=>absurd ag (ax4)⟩
 | k+1,h=>by obtain⟨h1,H⟩:=PG cD k r;have e:=Ym cD k r;have ab:=h1.insert fL [nk (cD.getD k (0,0)).1,nl (cD.getD k (0,0)).2];have aK:=H.insert fL [nk (cD.getD k (0,0)).1,nl (cD.getD k (0,0)).2];rw[e] at ab aK;exact⟨ab,aK⟩
def CY(w:World)(v:Value)(l:List (Int×Int)):Prop:=(∃a af,v=.slice a l.length af/\(l=[]\/∃g off,a=some ⟨g,off,none⟩/\g<w.heap.size/\∀i (h:i<l.length),dp w g (off+i*2)=some (q l[i].1)/\dp w g (off+i*2+1)=some (q l[i].2)))/\l.length<=1048576/\∀x∈l,-9223372036854775808<=x.1/\x.1<=9223372036854775807/\-9223372036854775808<=x.2/\x.2<=9223372036854775807
def PV(t:fo):List UInt8:=t.1.data.toList++[32]++(im t.2).data.toList++[44]
def AX(v:e6):List UInt8:=v.data.toList++[44]
def JO(C:l7):List UInt8:=[59]++C.1.flatMap AX++[60]++C.2.flatMap PV
def PX(e aq:Int)(out:List l7):List UInt8:=(im e).data.toList++[58]++(im aq).data.toList++out.flatMap JO
structure UO (out:List l7):Prop where
 vc:out.length<=100000
 ba:∀C∈out,C.1.length<=5000/\∀v∈C.1,v.size<=1000
 atZ:∀C∈out,C.2.length<=100000/\∀t∈C.2,t.1.size<=1000/\-1000000000000000<=t.2/\t.2<=1000000000000000
def ahU{α:Type}(f:α->List UInt8)(l:List α)(k:Nat)(h:k<l.length):(l.take (k+1)).flatMap f=(l.take k).flatMap f++f l[k]:=by rw[jD h,List.flatMap_append];simp
def Gd(a b:e6):(a++b).data.toList=a.data.toList++b.data.toList:=by rw[ByteArray.data_append,Array.toList_append]
def Ge(a b:e6):(a++b).size=a.size+b.size:=by rw[ByteArray.size_append]
def uP(i:Nat):Nat:=100+i*200000000
def at0:uP 0=100:=by unfold uP;omega
def at1(i:Nat):uP (i+1)=uP i+200000000:=by unfold uP;omega
def auA(h:i<=100000):uP i<=100000000000000:=by unfold uP;omega
def ans(b0:Value)(aq e:Int)(out:List l7)(w:World)(h:fW 0 w b0 out)(sm:UO out)(o6 : -1000000000000000<=aq)(yx:aq<=1000000000000000)(nr : -1000000000000000<=e)(re:e<=1000000000000000):ey 18 #[.agg #[b0,q aq],q e] w fun x w'=>x=.returned (.string (a7 (PX e aq out)))/\eB w w':=by
 obtain⟨bE,ag,mn,CL⟩:=h;obtain⟨eL,rc,rfl⟩:=cG ag;have iD:eB w (w.alloc (.cells #[.slice eL bE.length rc,q aq] 40)):=cT;have aT:=bH w (.cells #[.slice eL bE.length rc,q aq] 40);have e9:Hid (∀i (hi:i<bE.length) (ct:i<out.length),∃vJ um g aC c6 bA bt aX bD,out[i]=(vJ,um)/\eL=some ⟨g,0,none⟩/\g<w.heap.size/\(∀W,eB w W->dp W g (i*2)=some (.slice aC c6 bA)/\dp W g (i*2+1)=some (.slice bt aX bD))/\c6=vJ.length/\aX=um.length/\(∀k (hk:k<vJ.length),∃U,aC=some ⟨U,0,none⟩/\U<w.heap.size/\∀aU,eB w aU->dp aU U k=some (.string (vJ[k])))/\(∀k (hk:k<um.length),∃U,bt=some ⟨U,0,none⟩/\U<w.heap.size/\∀aU,eB w aU->dp aU U (k*2)=some (.string (um[k]).1)/\dp aU U (k*2+1)=some (q (um[k]).2))):=u (fun i hi ct=>by
  obtain⟨g,eX,R,bk,c1⟩:=Ps ag i hi;obtain⟨aI,aZ⟩:=CL i hi ct;obtain⟨aC,bA,Y⟩:=cG aI;obtain⟨bt,bD,am⟩:=cG aZ;rw[Y] at bk aI;rw[am] at c1 aZ;refine⟨out[i].1,out[i].2,g,aC,_,bA,bt,_,bD,rfl,eX,R,fun W A=>⟨(A.cell (p:=⟨g,i*2,none⟩) R).trans bk,(A.cell (p:=⟨g,i*2+1,none⟩) R).trans c1⟩,rfl,rfl,fun k hk=>?_,fun k hk=>?_⟩
  ·obtain⟨U,eq,ae,ajS⟩:=PF aI k hk;exact⟨U,eq,ae,fun aU bg=>(bg.cell (p:=⟨U,k,none⟩) ae).trans ajS⟩
  ·obtain⟨U,eq,ae,ajS,auB⟩:=XI aZ k hk;exact⟨U,eq,ae,fun aU bg=>⟨(bg.cell (p:=⟨U,k*2,none⟩) ae).trans ajS,(bg.cell (p:=⟨U,k*2+1,none⟩) ae).trans auB⟩⟩)
 have Ag:=u sm;have auC:=u mn;have anc:bE.length<=100000:=by have:=sm.vc;omega
 have ht:=u (fun W=>JF aq W r r);have bK:=u (fun W=>JF e W r r);have C1:Hid ((im aq).size<=30/\(im e).size<=30):=u ⟨Ik aq r r,Ik e r r⟩;have wN:Hid (a7 (PX e aq out)=a7 ((im e).data.toList++[58]++(im aq).data.toList++(out.take bE.length).flatMap JO)):=u (by unfold PX;rw[mn,List.take_length]);generalize a7 (PX e aq out)=gh at *;clear ag CL sm o6 yx nr re mn;go_enter func18,ntmps18;go_upto_region 1 with fail;generalize w.alloc (.cells #[.slice eL bE.length rc,q aq] 40)=hz at *;have my:=u iD;have rG:Hid (∀W,eB hz W->dp W w.heap.size 0=some (.slice eL bE.length rc)/\dp W w.heap.size 1=some (q aq)):=u (fun W A=>by
  have k:=(A.block _ (br aT).1).trans aT;exact⟨Z k (i:=0) rfl,Z k (i:=1) rfl⟩)
 clear aT iD;have ajV:Hid ((im e++(⟨#[58]⟩:e6)++im aq).data.toList=(im e).data.toList++[58]++(im aq).data.toList/\(im e++(⟨#[58]⟩:e6)++im aq).size<=100):=u (by
  refine⟨by rw[Gd,Gd],?_⟩;have h1:=C1.out;have H:(⟨#[58]⟩:e6).size=1:=rfl;rw[Ge,Ge];omega)
 obtain⟨auD,auE⟩:=C1.out;have q1:¬9223372036854775807<(im e).size+1:=r;have bN:¬9223372036854775807<(im e).size+1+(im aq).size:=r;have JP:Hid (ey 20 #[q e] hz.drew fun x J=>x=.returned (.string (im e))/\(dp J w.heap.size 0=some (.slice eL bE.length rc)/\dp J w.heap.size 1=some (q aq))/\Hid (eB hz J)):=u ((bK.out hz.drew).mono (by
  rintro x J ⟨rfl,A⟩;have bg:eB hz J:=Below.fK (show eB hz hz.drew from⟨rfl,rfl,rfl,ap,fun _ _=>rfl⟩) A;exact⟨rfl,rG.out J bg,u bg⟩))
 have ET:Hid (∀W,eB hz W->ey 20 #[q aq] W fun x S=>x=.returned (.string (im aq))/\(dp S w.heap.size 0=some (.slice eL bE.length rc)/\dp S w.heap.size 1=some (q aq))/\Hid (eB hz S)):=u (fun W h=>(ht.out W).mono (by
  rintro x S ⟨rfl,A⟩;have bg:=Below.fK h A;exact⟨rfl,rG.out S bg,u bg⟩))
 obtain⟨dN,bz⟩:=rG.out hz (Below.refl _ _);generalize im e=Yp at *;generalize im aq=Ys at *;clear auD auE;go_region_held3 (fun w'=>w'.cell? ⟨w.heap.size,0,none⟩=some (.slice eL bE.length rc)/\w'.cell? ⟨w.heap.size,1,none⟩=some (q aq)) (go_keep) (first | (go_at_call 20;refine(ET.out J jd.out).mono ?_;rintro x S ⟨rfl,⟨hr,cN⟩,kh⟩) | (go_at_call 20;refine JP.out.mono ?_;rintro x J ⟨rfl,⟨a0,bq⟩,jd⟩));clear dN bz a0 bq q1 bN hr cN;have auL:Hid ((Yp++(⟨#[58]⟩:e6)++Ys).data.toList=Yp.data.toList++[58]++Ys.data.toList):=u ajV.out.1;have auO:Hid ((Yp++(⟨#[58]⟩:e6)++Ys).size<=100):=u ajV.out.2;generalize Yp++(⟨#[58]⟩:e6)++Ys=k5 at *;generalize Yp.data.toList++[58]++Ys.data.toList=YK at *;have gS:Hid (eB w S):=u (Below.fK my.out kh.out)
 have apb:Hid (∀W,eB S W->dp W w.heap.size 0=some (.slice eL bE.length rc)):=u (fun W A=>(rG.out W (Below.fK kh.out A)).1);clear ajV ET JP rG ht bK C1;go_upto_region 3 with fail;go_loopg [5,6,7,8] (bE.length+1) (fun U sv uN hI bv wr=>∃(i:Nat) (s:e6),i<=bE.length/\uN=q (i:Int)/\sv=.string s/\Hid (s.data.toList=YK++(out.take i).flatMap JO)/\Hid (s.size<=uP i)/\Hid (eB S wr)/\bE.length-i<U);case atStart=>exact⟨0,k5,bu,rfl,rfl,u (by rw[auL.out];simp),u (by have:=auO.out;rw[at0];exact this),u (Below.refl _ _),r⟩
 case round=>
  obtain⟨i,s,hi,rfl,rfl,dV,ep,bc,ae⟩:=hrel;by_cases aD:i<bE.length
  ·have cL:(i:Int)<(bE.length:Int):=r;have ct:i<out.length:=by have:=auC.out;omega
   have D0:uP i<=100000000000000:=auA r;have au7:Hid (uP (i+1)=uP i+200000000):=u (at1 i);have hK:eB w wr:=Below.fK gS.out bc.out;obtain⟨vJ,um,g,aC,c6,bA,bt,aX,bD,YW,rfl,R,j2,apd,FK,ape,apg⟩:=e9.out i aD ct;have oD:Hid (∀W,eB S W->dp W w.heap.size 0=some (.slice (some ⟨g,0,none⟩) bE.length rc)/\dp W g (i*2)=some (.slice aC c6 bA)/\dp W g (i*2+1)=some (.slice bt aX bD)):=u (fun W A=>⟨apb.out W A,j2 W (Below.fK gS.out A)⟩);obtain⟨aph,apr⟩:vJ.length<=5000/\∀v∈vJ,v.size<=1000:=by have:=Ag.out.ba _ (ec ct);rw[YW] at this;exact this
   obtain⟨apu,apv⟩:um.length<=100000/\∀t∈um,t.1.size<=1000/\-1000000000000000<=t.2/\t.2<=1000000000000000:=by have:=Ag.out.atZ _ (ec ct);rw[YW] at this;exact this
   have IY:Hid (∀W,eB S W->∀k (hk:k<c6) (gi:k<vJ.length),∃U,aC=some ⟨U,0,none⟩/\dp W U k=some (.string (vJ[k]))):=u (fun W A k hk gi=>by
    obtain⟨U,e,_,h⟩:=ape k gi;exact⟨U,e,h W (Below.fK gS.out A)⟩)
   have Jv:Hid (∀k (gi:k<um.length),∃U,bt=some ⟨U,0,none⟩/\∀W,eB S W->dp W U (k*2)=some (.string (um[k]).1)/\dp W U (k*2+1)=some (q (um[k]).2)):=u (fun k gi=>by
    obtain⟨U,e,_,h⟩:=apg k gi;exact⟨U,e,fun W A=>h W (Below.fK gS.out A)⟩)
   have ava:Hid ((out.take (i+1)).flatMap JO=(out.take i).flatMap JO++([59]++vJ.flatMap AX++[60]++um.flatMap PV)):=u (by have:=ahU JO out i ct;rw[YW] at this;exact this);have aej:IntKind.i64.wrap ((i:Int)+1)=(i:Int)+1:=mC;have fb:=u apd;have dy:=u FK;have apw:=u (And.intro aph (And.intro apr (And.intro apu apv)));have Vo:c6<=5000:=r;have lX:aX<=100000:=r;clear apd FK ape apg j2 YW aph apr apu apv e9 R;have b3:¬9223372036854775807<s.size+1:=by have:=ep.out;omega
   have apH:Hid ((s++(⟨#[59]⟩:e6)).data.toList=YK++(out.take i).flatMap JO++[59]):=u (by rw[Gd,dV.out]);have Jo:Hid ((s++(⟨#[59]⟩:e6)).size<=uP i+1):=u (by have:=ep.out;have e:(⟨#[59]⟩:e6).size=1:=rfl;rw[Ge,e];omega);obtain⟨bk,c1,c2⟩:=oD.out wr bc.out;have ch:=u ae;have vy:=u aD;clear ae dV ep aD ct hK;go_upto_block 2 with fail;generalize s++(⟨#[59]⟩:e6)=ha at *;generalize apI:YK++(out.take i).flatMap JO++[59]=yM at *;have avk:=u apI;clear apI;clear bk c1 c2;obtain⟨FR,rfl⟩:∃x,x=gk:=⟨_,rfl⟩;obtain⟨ih,rfl⟩:∃x,x=wr:=⟨_,rfl⟩;go_cut [5,7] (fun sv gr wc=>∃s:e6,sv=.string s/\Hid (s.data.toList=yM++vJ.flatMap AX)/\Hid (s.size<=uP i+5005001)/\wc=ih);case first=>
    as_aux_lemma=>
     go_wp2_with fail;go_loopg [5,7] (c6+1) (fun U sv gr wk=>∃(k:Nat) (s:e6),k<=c6/\gr=q (k:Int)/\sv=.string s/\Hid (s.data.toList=yM++(vJ.take k).flatMap AX)/\Hid (s.size<=uP i+1+k*1001)/\wk=ih/\c6-k<U);case atStart=>exact⟨0,ha,bu,rfl,rfl,u (by rw[apH.out];simp),u (by have:=Jo.out;omega),rfl,r⟩
     case round=>
      obtain⟨k,s,hk,rfl,rfl,dV,ep,rfl,ae⟩:=hrel;obtain⟨bk,c1,c2⟩:=oD.out _ bc.out;have Jm:=vy.out;have fM:(i:Int)<(bE.length:Int):=r;by_cases jl:k<c6
      ·have JR:(k:Int)<(c6:Int):=r;have YX:k<vJ.length:=by have:=fb.out;omega
       obtain⟨U,rfl,fl⟩:=IY.out _ bc.out k jl YX;have Cx:=apw.out.2.1 _ (ec YX);have mo:Hid ((vJ.take (k+1)).flatMap AX=(vJ.take k).flatMap AX++(vJ[k].data.toList++[44])):=u (ahU AX vJ k YX);have sU:IntKind.i64.wrap ((k:Int)+1)=(k:Int)+1:=mC;generalize vJ[k]=YY at *;have z2:¬9223372036854775807<s.size+YY.size:=by have:=ep.out;omega
       have z3:¬9223372036854775807<s.size+YY.size+1:=by have:=ep.out;omega
       have YZ:Hid ((s++YY++(⟨#[44]⟩:e6)).data.toList=yM++(vJ.take (k+1)).flatMap AX):=u (by rw[mo.out,Gd,Gd,dV.out];simp);have eS:Hid ((s++YY++(⟨#[44]⟩:e6)).size<=uP i+1+(k+1)*1001):=u (by have:=ep.out;have e:(⟨#[44]⟩:e6).size=1:=rfl;rw[Ge,Ge,e];omega);have wY:=u ae;clear ae dV ep Cx YX;go_wp2_with fail;have ae:=wY.out;go_roundg (gk-1);case measure=>omega
       case rel=>exact⟨k+1,_,r,by go_num,rfl,YZ,eS,rfl,r⟩
      ·have vq:k=c6:=r;subst vq;have JR:(k:Int)<=(k:Int):=r;have oG:Hid (s.data.toList=yM++vJ.flatMap AX):=u (by rw[dV.out,fb.out,List.take_length]);have aqa:Hid (s.size<=uP i+5005001):=u (by have:=ep.out;omega);clear dV ep ae;go_wp2_with fail;go_meet;case rel=>exact⟨s,rfl,oG,aqa,rfl⟩
   case rest=>
    obtain⟨s2,rfl,dV,ep,uj⟩:=hcut;subst uj;clear apH Jo IY b3;have oG:Hid ((s2++(⟨#[60]⟩:e6)).data.toList=yM++vJ.flatMap AX++[60]):=u (by rw[Gd,dV.out]);have aqa:Hid ((s2++(⟨#[60]⟩:e6)).size<=uP i+5005002):=u (by have:=ep.out;have e:(⟨#[60]⟩:e6).size=1:=rfl;rw[Ge,e];omega);have z4:¬9223372036854775807<s2.size+1:=by have:=ep.out;omega
    clear dV ep;go_upto_block 4 with fail;generalize s2++(⟨#[60]⟩:e6)=jJ at *;go_wp2_with fail;go_loopg [5,8] (aX+1) (fun U sv gr wk=>∃(m:Nat) (s:e6),m<=aX/\gr=q (m:Int)/\sv=.string s/\Hid (s.data.toList=yM++vJ.flatMap AX++[60]++(um.take m).flatMap PV)/\Hid (s.size<=uP i+5005002+m*1040)/\Hid (eB S wk)/\aX-m<U);case atStart=>exact⟨0,jJ,bu,rfl,rfl,u (by rw[oG.out];simp),u (by have:=aqa.out;omega),bc,r⟩
    case round=>
     obtain⟨m,dd,hm,rfl,rfl,dV,ep,pB,ae⟩:=hrel;obtain⟨bk,c1,c2⟩:=oD.out _ pB.out;have Jm:=vy.out;have fM:(i:Int)<(bE.length:Int):=r;by_cases wG:m<aX
     ·have avp:(m:Int)<(aX:Int):=r;have Y3:m<um.length:=by have:=dy.out;omega
      obtain⟨U,rfl,vm⟩:=Jv.out m Y3;obtain⟨aqm,aqn,aqo⟩:=apw.out.2.2.2 _ (ec Y3);have mo:Hid ((um.take (m+1)).flatMap PV=(um.take m).flatMap PV++(um[m].1.data.toList++[32]++(im um[m].2).data.toList++[44])):=u (ahU PV um m Y3);have axh:IntKind.i64.wrap ((m:Int)+1)=(m:Int)+1:=mC;generalize um[m]=T at *;obtain⟨kt,kV⟩:=T;simp only[] at vm aqm aqn aqo mo;have ID:Hid (∀W,eB S W->(dp W w.heap.size 0=some (.slice (some ⟨g,0,none⟩) bE.length rc)/\dp W g (i*2+1)=some (.slice (some ⟨U,0,none⟩) aX bD)/\dp W U (m*2)=some (.string kt)/\dp W U (m*2+1)=some (q kV))):=u (fun W A=>⟨(oD.out W A).1,(oD.out W A).2.2,vm W A⟩)
      have vS:Hid (ey 20 #[q kV] wr.drew fun x bh=>x=.returned (.string (im kV))/\(dp bh w.heap.size 0=some (.slice (some ⟨g,0,none⟩) bE.length rc)/\dp bh g (i*2+1)=some (.slice (some ⟨U,0,none⟩) aX bD)/\dp bh U (m*2)=some (.string kt)/\dp bh U (m*2+1)=some (q kV))/\Hid (eB S bh)):=u ((JF kV wr.drew r r).mono (by
       rintro x bh ⟨rfl,A⟩;have iR:eB S bh:=Below.fK (Below.fK pB.out (show eB wr wr.drew from⟨rfl,rfl,rfl,ap,fun _ _=>rfl⟩)) A;exact⟨rfl,ID.out bh iR,u iR⟩))
      have BA:=Ik kV r r;generalize im kV=ach at *;have z5:¬9223372036854775807<dd.size+kt.size:=by have:=ep.out;omega
      have R9:¬9223372036854775807<dd.size+kt.size+1:=by have:=ep.out;omega
      have DJ:¬9223372036854775807<dd.size+kt.size+1+ach.size:=by have:=ep.out;omega
      have acY:¬9223372036854775807<dd.size+kt.size+1+ach.size+1:=by have:=ep.out;omega
      have YZ:Hid ((dd++kt++(⟨#[32]⟩:e6)++ach++(⟨#[44]⟩:e6)).data.toList=yM++vJ.flatMap AX++[60]++(um.take (m+1)).flatMap PV):=u (by rw[mo.out,Gd,Gd,Gd,Gd,dV.out];simp);have eS:Hid ((dd++kt++(⟨#[32]⟩:e6)++ach++(⟨#[44]⟩:e6)).size<=uP i+5005002+(m+1)*1040):=u (by have:=ep.out;have e:(⟨#[44]⟩:e6).size=1:=rfl;have am:(⟨#[32]⟩:e6).size=1:=rfl;rw[Ge,Ge,Ge,Ge,e,am];omega);obtain⟨d0,d1,d2,d3⟩:=ID.out wr pB.out;have avq:=u ae;clear ae dV ep Y3 aqm aqn aqo BA vm bk c1 c2;go_upto_region 14 with fail
      go_region_held3 (fun w'=>w'.cell? ⟨w.heap.size,0,none⟩=some (.slice (some ⟨g,0,none⟩) bE.length rc)/\w'.cell? ⟨g,i*2+1,none⟩=some (.slice (some ⟨U,0,none⟩) aX bD)/\w'.cell? ⟨U,m*2,none⟩=some (.string kt)/\w'.cell? ⟨U,m*2+1,none⟩=some (q kV)) (go_keep) (first | (go_at_call 20;refine vS.out.mono ?_;rintro x bh ⟨rfl,⟨f0,f1,f2,f3⟩,F4⟩));all_goals
       clear d0 d1 d2 d3 f0 f1 f2 f3;go_wp2_with fail;have ae:=avq.out;go_roundg (gk-1);case measure=>omega
       case rel=>exact⟨m+1,_,r,by go_num,rfl,YZ,eS,F4,r⟩
     ·have avt:m=aX:=r;subst avt;have avp:(m:Int)<=(m:Int):=r;have x9:Hid (dd.data.toList=YK++(out.take (i+1)).flatMap JO):=u (by
       rw[dV.out,dy.out,List.take_length,ava.out,<-avk.out];simp)
      have Xg:Hid (dd.size<=uP (i+1)):=u (by have:=ep.out;have:=au7.out;omega);have avw:=pB;clear dV ep ae pB;go_wp2_with fail;have ae:=ch.out;go_roundg (FR-1);case measure=>omega
      case rel=>exact⟨i+1,_,r,by go_num,rfl,x9,Xg,avw,r⟩
  ·have eZ:i=bE.length:=r;subst eZ;have cL:(bE.length:Int)<=(bE.length:Int):=r;have cK:Hid (gh=s):=u (by rw[wN.out,<-dV.out];rfl);have aT:=apb.out wr bc.out;have avx:Hid (eB w wr):=u (Below.fK gS.out bc.out);clear ae dV ep bc;go_wp2_with fail;go_ret;exact⟨by rw[cK.out];rfl,avx.out⟩
def atc{V:lh}{aG:ez}{t:fo}(h:t∈hP V aG i):(t.1=⟨#[]⟩\/∃s∈V,t.1=s.1)/\(t.2=0\/∃c∈aG,∃C∈c,t.2=(C.1:Int)):=by
 unfold hP at h;obtain⟨c,ai,rfl⟩:=List.mem_map.1 h;refine⟨?_,?_⟩
 ·by_cases hi:i<V.length
  ·refine .inr ⟨V[i],ec hi,?_⟩;show(V.getD i _).1=_;rw[List.getD_eq_getElem?_getD,fC hi];rfl
  ·left;show(V.getD i _).1=_;rw[List.getD_eq_getElem?_getD,List.getElem?_eq_none r];rfl
 ·by_cases hi:i<c.length
  ·refine .inr ⟨c,ai,c[i],ec hi,?_⟩;show(((c.getD i _).1:Nat):Int)=_;rw[List.getD_eq_getElem?_getD,fC hi];rfl
  ·left;show(((c.getD i _).1:Nat):Int)=_;rw[List.getD_eq_getElem?_getD,List.getElem?_eq_none r];rfl
def avy(ok:hA N g)(fit:lw g)(cS:N<=1000000000)(hrel:oJ td g.bY){out:List l7}(ae:hN td eH=0)(ag:hC eH=some (ts,t))(ak:oK g.bY g.dS (eM t) t=some out):UO out:=by
 obtain⟨ko,CS,_,⟨e,wh,il,hv,r7⟩,iu⟩:=PA ae ag;have bi:=fit.B ok;have bM : -1000000000000<=g.dS:=by have:=ok.zN;omega
 have ajW:aJ (.query e (eM t) wh il hv) 2:=by rw[<-r7];exact ko
 have aqp:mr (.query e (eM t) wh il hv):=by rw[<-r7];exact CS
 have y7:oK g.bY g.dS (eM t) (.query e (eM t) wh il hv)=some out:=by rw[<-r7];exact ak
 obtain⟨cN,bL,_⟩:=XG bi bM ok.ya ajW aqp iu y7;obtain⟨b1,_⟩:=Pm bi bM ok.ya ajW aqp [] (E:=[]) (st:=nG) (m:=0) (by trivial) ⟨bu,fun _=>bu⟩;have gA:=(UQ (P:=fun C=>C.1<=1000000000) (B:=g.bY) (fun s C ag=>by
  rcases L4 g.bY s with⟨aw,_⟩ | ⟨iy,lX,aw,_⟩
  ·rw[aw] at ag;cases ag
  ·rw[aw] at ag;have:=(fit iy lX).num C ag;have:=(ok.B iy lX).last;omega) g.dS (.query e (eM t) wh il hv) [] nG ⟨fun C ag=>(by cases ag),fun c ai=>(by cases ai)⟩).1
 have aqc:∀s∈eM t,s.1.size<=6:=by
  have ut:eh td [] t=true:=by
   unfold hN at ae;split at ae
   ·rename_i h;exact absurd ae h
   ·rw[ag] at ae;have zb:pj td t=0:=ae;unfold pj at zb;split at zb
    ·rename_i h;exact h
    ·cases zb
  rw[r7,eh,Bool.and_eq_true] at ut;cases aa:hd td [] (eM t) with
  | none=>rw[aa] at ut;exact absurd ut.2 (by simp)
  | some bU=>obtain⟨_,_,ab,_⟩:=Jc hrel (eM t) [] bU aa;intro s hs;obtain⟨i,hi⟩:=ab s hs;obtain⟨X,ar⟩:=W5 hi;have:=(fit _ (ec X)).name;rw[ar] at this;unfold iP at this;have cE:s.1.data.toList.length<=6:=of_decide_eq_true (Bool.and_eq_true_iff.1 this).2;rw[ax7] at cE;exact cE
 unfold oK at y7;split at y7
 ·cases y7
 obtain rfl:=bx y7;have key:∀C∈(kM pg ((bR g.bY g.dS (.query e (eM t) wh il hv) [] nG).2.1.map (lG (eM t)))).map nF,∃x∈(bR g.bY g.dS (.query e (eM t) wh il hv) [] nG).2.1,C=nF (lG (eM t) x):=fun C ag=>by obtain⟨a,ak,rfl⟩:=List.mem_map.1 ag;obtain⟨x,aa,rfl⟩:=List.mem_map.1 ((sS pg _).mem_iff.1 ak);exact⟨x,aa,rfl⟩
 refine⟨r,fun C ag=>?_,fun C ag=>?_⟩
 ·obtain⟨x,aa,rfl⟩:=key C ag;have kc:=b1 x aa;obtain⟨_,_,_,cO,_⟩:=id ajW;refine⟨?_,fun v hv=>?_⟩
  ·show(x.1.map _).length<=5000;rw[cZ,kc.len];exact cO
  ·obtain⟨y,cn,rfl⟩:=List.mem_map.1 (show v∈x.1.map _ from hv);have:=OE (kc.ba y cn);show((iI y).toArray).size<=1000;simp only[List.size_toArray];omega
 ·obtain⟨x,aa,rfl⟩:=key C ag;have qK:=gA x aa;have kc:=b1 x aa;refine⟨?_,fun t' vg=>?_⟩
  ·have h1:(lG (eM t) x).2.length<=(eM t).length*x.2.length:=by unfold lG;refine bX (Pv _) ?_;rw[List.flatten_cons,List.flatten_nil,List.append_nil,CG];exact ap
   have H:(eM t).length*x.2.length<=3*20000:=Nat.mul_le_mul iu kc.vc;show(lG (eM t) x).2.length<=100000;omega
  ·have hm:=(apo [iO (eM t) x.2 (eM t).length]).2.1 t' vg;rw[List.flatten_cons,List.flatten_nil,List.append_nil] at hm;unfold iO at hm;obtain⟨i,_,hm⟩:=List.mem_flatMap.1 hm;obtain⟨m1,m2⟩:=atc hm;refine⟨?_,?_⟩
   ·rcases m1 with m1 | ⟨s,hs,m1⟩
    ·rw[m1];show 0<=1000;omega
    ·rw[m1];have:=aqc s hs;omega
   ·rcases m2 with m2 | ⟨c,ai,lK,tw,m2⟩
    ·rw[m2];exact⟨r,r⟩
    ·have:=qK c ai lK tw;rw[m2];simp only[] at this;exact⟨r,r⟩
def ave{s:List UInt8}(h:iP s=true):jf s=true:=by unfold iP yU at h;simp only[Bool.and_eq_true,decide_eq_true_eq] at h;unfold jf;rw[Bool.and_eq_true];exact⟨List.all_eq_true.2 fun c ai=>by rw[List.all_eq_true.1 h.1.1.1 c ai];rfl,ax3 r⟩
def Yr(iy:bG):List fo:=[(⟨#[]⟩:e6),iy.name].flatMap fun n=>(0::iy.ad.map fun C=>(C.1:Int)).map fun k=>(n,k)
def avf(iy:bG):(Yr iy).length=2*(iy.ad.length+1):=by unfold Yr;simp;omega
def avg{t:fo}(h1:t.1=⟨#[]⟩\/t.1=iy.name)(H:t.2=0\/∃C∈iy.ad,t.2=(C.1:Int)):t∈Yr iy:=by
 unfold Yr;obtain⟨a,b⟩:=t;refine List.mem_flatMap.2 ⟨a,?_,List.mem_map.2 ⟨b,?_,rfl⟩⟩
 ·rcases h1 with rfl | rfl<;>simp
 ·rcases H with rfl | ⟨C,ag,rfl⟩
  ·simp
  ·exact List.mem_cons_of_mem _ (List.mem_map.2 ⟨C,ag,rfl⟩)
def avh(au:s.ck.bY=[iy])(ok:hA N s.ck)(fit:lw s.ck)(h:apq s cU eH j):∃ts,j=nh cU s.ck.dS ts s.jr/\s.jr.count<60/\jf cU.data.toList=true/\ts.length<=2*(iy.ad.length+1)/\∀t∈ts,t∈Yr iy:=by
 obtain⟨td,avZ,t,out,hrel,ae,ag,ak,ai,hw,rfl⟩:=h;refine⟨_,rfl,ai,hw,?_⟩;have key:∀x∈(out.map (·.2)).flatten,x∈Yr iy:=by
  obtain⟨ko,CS,_,⟨e,wh,il,hv,r7⟩,iu⟩:=PA ae ag;have bi:=fit.B ok;have bM : -1000000000000<=s.ck.dS:=by have:=ok.zN;omega
  have gA:=(UQ (P:=fun C=>C∈iy.ad) (B:=s.ck.bY) (fun fu C ag=>by
   rcases L4 s.ck.bY fu with⟨aw,_⟩ | ⟨av0,lX,aw,_⟩
   ·rw[aw] at ag;cases ag
   ·rw[aw] at ag;rw[au] at lX;obtain rfl:=ic lX;exact ag) s.ck.dS (.query e (eM t) wh il hv) [] nG ⟨fun C ag=>(by cases ag),fun c ai=>(by cases ai)⟩).1
  have aqc:∀fu∈eM t,fu.1=iy.name:=by
   have ut:eh td [] t=true:=by
    unfold hN at ae;split at ae
    ·rename_i h;exact absurd ae h
    ·rw[ag] at ae;have zb:pj td t=0:=ae;unfold pj at zb;split at zb
     ·rename_i h;exact h
     ·cases zb
   rw[r7,eh,Bool.and_eq_true] at ut;cases aa:hd td [] (eM t) with
   | none=>rw[aa] at ut;exact absurd ut.2 (by simp)
   | some bU=>
    obtain⟨_,_,ab,_⟩:=Jc hrel (eM t) [] bU aa;intro fu hs;obtain⟨i,hi⟩:=ab fu hs;obtain⟨X,ar⟩:=W5 hi;have tZ:∀x∈s.ck.bY,x=iy:=by rw[au];intro x aa;exact ic aa
    rw[<-ar];exact congrArg bG.name (tZ _ (ec X))
  have y7:oK s.ck.bY s.ck.dS (eM t) (.query e (eM t) wh il hv)=some out:=by rw[<-r7];exact ak
  unfold oK at y7;split at y7
  ·cases y7
  obtain rfl:=bx y7;intro x aa;obtain⟨l,X,mI⟩:=List.mem_flatten.1 aa;obtain⟨o,ct,rfl⟩:=List.mem_map.1 X;obtain⟨a,avi,rfl⟩:=List.mem_map.1 ct;obtain⟨y,cn,rfl⟩:=List.mem_map.1 ((sS pg _).mem_iff.1 avi);have hm:=(apo [iO (eM t) y.2 (eM t).length]).2.1 x mI;rw[List.flatten_cons,List.flatten_nil,List.append_nil] at hm;unfold iO at hm;obtain⟨i,_,hm⟩:=List.mem_flatMap.1 hm;obtain⟨m1,m2⟩:=atc hm;refine avg ?_ ?_
  ·rcases m1 with m1 | ⟨fu,hs,m1⟩
   ·exact .inl m1
   ·exact .inr (m1.trans (aqc fu hs))
  ·rcases m2 with m2 | ⟨c,k4,lK,tw,m2⟩
   ·exact .inl m2
   ·exact .inr ⟨lK,gA y cn c k4 lK tw,m2⟩
 refine⟨?_,fun x aa=>key x ((apo _).2.1 x aa)⟩;rw[<-avf];exact(apo (out.map (·.2))).2.2 (Yr iy) key
def apA(au:s.ck.bY=[iy])(ok:hA N s.ck)(fit:lw s.ck)(cS:N<=1000000000)(aS:JW s.jr)(h:apq s cU eH j):JW j:=by
 obtain⟨ts,rfl,ai,hw,X,hm⟩:=avh au ok fit h;have nT:iy∈s.ck.bY:=by rw[au];exact List.mem_singleton.2 rfl
 have yY:=(ok.B iy nT).Ea;have bM : -1000000000000<=s.ck.dS:=by have:=ok.zN;omega
 refine aS.with ai hw bM ok.ya r (fun t vg=>?_);have:=hm t vg;unfold Yr at this;obtain⟨a,ak,H⟩:=List.mem_flatMap.1 this;obtain⟨b,A,rfl⟩:=List.mem_map.1 H;refine⟨?_,?_⟩
 ·rcases List.mem_cons.1 ak with rfl | ak
  ·show jf []=true;decide
  ·obtain rfl:=ic ak;exact ave (fit iy nT).name
 ·rcases List.mem_cons.1 A with rfl | A
  ·show(-1000000000000:Int)<=0/\(0:Int)<=1000000000000;omega
  ·obtain⟨C,ag,rfl⟩:=List.mem_map.1 A;have:=(fit iy nT).num C ag;have:=(ok.B iy nT).last;show -1000000000000<=((C.1:Nat):Int)/\((C.1:Nat):Int)<=1000000000000;omega
def vE.later(A:Below w.heap.size w W)(h:vE F W b s w'):vE F w b s w':=by obtain⟨F',aI,aZ,a6⟩:=h;exact⟨F',aI,fun k hk=>(aZ k hk).imp id (fun h=>bX A.size h),(da.of A).andThen a6⟩
def nH.below(h:nH F w b s)(A:Below w.heap.size w w'):nH F w' b s:=h.aside (G:=fun _=>False) ⟨A.os,A.tape,A.output,A.size,fun k hk _=>A.block k hk⟩ (fun _ _=>id)
def dK.aaX{I:List dC}{hi:Nat}{vs:List Value}(h:dK td w t I lo hi vs)(av:ki w w'):dK td w' t I lo hi vs:=h.a8 (fun k cs m e _ _=>av.other k cs _ m e (by unfold oM;decide)) (fun k cs m t' au e=>av.other k cs _ m e (by unfold oM;rcases au with rfl | rfl | rfl<;>decide))
def apB(F:Nat->Prop)(w:World)(b:Nat)(s:ni)(eH:e6)(e:Ending)(w':World):Prop:=(A1 (pq (uO s.jr s.ck.bY)) eH≠0/\e=.returned (.tuple #[q 0,q (A1 (pq (uO s.jr s.ck.bY)) eH:Int)])/\vE F w b s w')\/(A1 (pq (uO s.jr s.ck.bY)) eH=0/\6<=s.nj.length/\e=.returned (.tuple #[q 0,q 7])/\vE F w b s w')\/(A1 (pq (uO s.jr s.ck.bY)) eH=0/\s.nj.length<6/\e=.returned (.tuple #[q ((s.last+1:Nat):Int),q 0])/\∃ts t x lo hi td,hC eH=some (ts,t)/\w.heap.size<=lo/\oJ td (uO s.jr s.ck.bY)/\dK td w' t [] lo hi [M x]/\vE F w b {s with nj:=s.nj++[⟨s.last+1,s.jr.count,gq ts,mM ts,x⟩],last:=s.last+1} w')
def avj(h:nH F w b s)(ok:hA N s.ck)(dh:Ground w)(X:s.nj.length<=100)(wx:s.last<=1000000)(eH:e6):ey 19 #[M b,.string eH] w (apB F w b s eH):=by
 have b5:=dh.uJ.js;obtain⟨aw,c,b6,bt,pa,cj,lc,aX,bD,pn,pc,h1,H,ab,aK⟩:=id h;obtain⟨aE,rh,aoD,lX⟩:=h1.bd ok;obtain⟨aC,c6,bA,rfl⟩:∃aC c6 bA,aE=.slice aC c6 bA:=by obtain⟨bs,_,C,_⟩:=lX;obtain⟨a,c,e⟩:=cG C.1;exact⟨a,_,c,e⟩
 obtain rfl:pn=s.nj.length:=by obtain⟨nB,e7,e⟩:=aK.shape;injection e
 have bc:=jq rh;have aqd:=u (auR (F:=fun k=>k<w.heap.size) eH s.jr s.ck.bY b aC b6 bt pa c6 bA cj lc aX bD s.nj.length pc (s.last:Int) s.ck.dS w dh.uJ rh H.inside ab.inside lX.inside (by have:=ok.wA;omega) (fun t au=>(ok.B t au).gp));have apC:Hid (∀W,Below w.heap.size w W->nH F W b s):=u (fun W A=>h.below A);have yR:Hid (∀W,Below w.heap.size w W->(dp W b 1=some (.slice b6 cj lc)/\dp W b 2=some (.slice bt aX bD)/\dp W b 3=some (q (s.jr.count:Int))/\dp W b 4=some (.slice pa s.nj.length pc))):=u (fun W A=>by
  have k:=Below.a8 A rh;exact⟨Z k (i:=1) rfl,Z k (i:=2) rfl,Z k (i:=3) rfl,Z k (i:=4) rfl⟩)
 have aqe:Hid (∀k,F k->oN w k/\8<=k):=u aw;clear h1 H ab aK rh aoD lX;unfold aqZ at aqd;generalize atB:A1 (pq (uO s.jr s.ck.bY)) eH=apD at *;have apE:=u atB;clear atB;go_enter func19,ntmps19;go_upto_region 2 with(go_at_call 41;refine aqd.d.mono ?_;rintro e J ⟨bJ,f,sp,YB,rfl,aj⟩);have dF:Below J.heap.size J (J.alloc (.cells #[q f,q sp,.pointer YB] 87)):=cT;have fq:=bH J (.cells #[q f,q sp,.pointer YB] 87);have hK:=Below.fK bJ dF;have lm:=u aj;have qN:=u bJ;clear aj bJ aqd;generalize arD:J.alloc (.cells #[q f,q sp,.pointer YB] 87)=W at *;have JX:Hid (∀(td:List eb) (t:aL) (lo hi:Nat) (vs:List Value),dK td J t [] lo hi vs->dK td W t [] lo hi vs):=u (fun _ _ _ _ _ h=>h.below dF);have kO:=u hK;clear dF;generalize J.heap.size=aB at *
 have eo:Hid (∀aU,Below W.heap.size W aU->(dp aU aB 0=some (q f)/\dp aU aB 1=some (q sp)/\dp aU aB 2=some (.pointer YB))):=u (fun aU A=>by
  have k:=Below.a8 A fq;exact⟨Z k (i:=0) rfl,Z k (i:=1) rfl,Z k (i:=2) rfl⟩)
 by_cases Rc:apD=0
 ·by_cases aqk:6<=s.nj.length
  ·have aql:Hid (ey 42 #[.pointer (some ⟨b,4,none⟩)] W (ov W (.bool true))):=u (by
    have:=aqP b 4 s.nj.length pc pa W (yR.d W kO.d).2.2.2;rw[ax3 aqk] at this;exact this)
   have Oq:Hid (apB F w b s eH (.returned (.tuple #[q 0,q 7])) W):=u (.inr (.inl ⟨apE.d.trans Rc,aqk,rfl,vE.same (by first | exact h) kO.d⟩));subst Rc;clear h ok dh fq hK lm qN apC yR aqe JX eo;go_wp2_with (go_at_call 42;refine aql.d.mono ?_;rintro e S ⟨rfl,rfl⟩);go_ret2;exact Oq.d
  ·have aql:Hid (ey 42 #[.pointer (some ⟨b,4,none⟩)] W (ov W (.bool false))):=u (by
    have:=aqP b 4 s.nj.length pc pa W (yR.d W kO.d).2.2.2;rw[ax2 aqk] at this;exact this)
   obtain⟨ts,t,x,lo,hi,td,q1,bN,fR,iK,j4,km,SI,atC⟩:=lm.d Rc;subst fR iK km;have vz:Below W.heap.size W W.drew:=⟨rfl,rfl,rfl,ap,fun _ _=>rfl⟩;have lg:Hid (ey 25 #[.agg #[.slice b6 cj lc,.slice bt aX bD,q (s.jr.count:Int)]] W.drew fun e aA=>e=.returned (q (s.jr.count:Int))/\(dp aA b 1=some (.slice b6 cj lc)/\dp aA b 2=some (.slice bt aX bD)/\dp aA b 3=some (q (s.jr.count:Int))/\dp aA aB 0=some (q (gq ts:Int))/\dp aA aB 1=some (q (mM ts))/\dp aA aB 2=some (M x))/\Hid (Below W.heap.size W aA)):=u ((ank b6 bt cj lc aX bD (s.jr.count:Int) W.drew).mono (by
    rintro e aA ⟨rfl,cg⟩;have lM:=Below.fK vz cg;obtain⟨bq,a2,a3⟩:=eo.d aA lM;obtain⟨Y,am,bm,_⟩:=yR.d aA (Below.fK kO.d lM);exact⟨rfl,⟨Y,am,bm,bq,a2,a3⟩,u lM⟩))
   have apF:Hid (∀aA,Below W.heap.size W aA->ey 43 #[.pointer (some ⟨b,4,none⟩),.agg #[q (gq ts:Int),q (mM ts),M x],q (s.jr.count:Int)] aA fun e bI=>e=.returned (q ((s.last+1:Nat):Int))/\(dp bI b 1=some (.slice b6 cj lc)/\dp bI b 2=some (.slice bt aX bD)/\dp bI b 3=some (q (s.jr.count:Int))/\dp bI aB 0=some (q (gq ts:Int))/\dp bI aB 1=some (q (mM ts))/\dp bI aB 2=some (M x))/\Hid (apB F w b s eH (.returned (.tuple #[q ((s.last+1:Nat):Int),q 0])) bI)):=u (fun aA cg=>by
    have Hs:=Below.fK kO.d cg;have FS:=apC.d aA Hs;refine(auI FS (bX b5 Hs.size) X wx s.jr.count (gq ts) (mM ts) x).mono ?_;rintro e bI ⟨rfl,⟨s1,s2,dd⟩,bi⟩;have av:ki aA bI:=by obtain⟨_,_,_,a6⟩:=bi;exact ki.of a6 FS.1
    have hk:=Below.a8 cg fq;have rm:=av.other _ _ _ _ hk (by unfold oM;decide);have apG:=((JX.d _ _ _ _ _ atC).below cg).aaX av;obtain⟨Y,am,bm,_⟩:=yR.d aA Hs;exact⟨rfl,⟨s1.trans Y,s2.trans am,dd.trans bm,Z rm (i:=0) rfl,Z rm (i:=1) rfl,Z rm (i:=2) rfl⟩,u (.inr (.inr ⟨apE.d.trans Rc,r,rfl,ts,t,x,lo,hi,td,q1,j4,SI,apG,vE.later Hs bi⟩))⟩)
   obtain⟨cN,bL,fS,jg⟩:=yR.d W kO.d;obtain⟨bq,a2,a3⟩:=eo.d W (Below.refl _ _);subst Rc;clear h ok dh fq hK lm qN apC aqe JX yR eo q1 bN j4 SI atC vz;go_upto_region 6 with(go_at_call 42;refine aql.d.mono ?_;rintro e S ⟨rfl,rfl⟩);go_region_held3 (fun w'=>w'.cell? ⟨b,1,none⟩=some (.slice b6 cj lc)/\w'.cell? ⟨b,2,none⟩=some (.slice bt aX bD)/\w'.cell? ⟨b,3,none⟩=some (q (s.jr.count:Int))/\w'.cell? ⟨aB,0,none⟩=some (q (gq ts:Int))/\w'.cell? ⟨aB,1,none⟩=some (q (mM ts))/\w'.cell? ⟨aB,2,none⟩=some (M x)) (go_keep) (first | (go_at_call 43;refine(apF.d aA JU.d).mono ?_;rintro e bI ⟨rfl,⟨d4,d5,d6,d0,d1,d2⟩,JT⟩) | (go_at_call 25;refine lg.d.mono ?_;rintro e aA ⟨rfl,⟨gp,fO,jy,bk,c1,c2⟩,JU⟩));all_goals
    go_wp2_with fail;go_ret2;exact JT.d
 ·have Oq:Hid (apB F w b s eH (.returned (.tuple #[q 0,q (apD:Int)])) W):=u (.inl ⟨by rw[apE.d];exact Rc,by rw[apE.d],vE.same h kO.d⟩);have aes:((apD:Int)==0)=false:=by rw[cV];omega
  have cy:¬(apD:Int)=0:=r;obtain⟨bq,a2,a3⟩:=eo.d W (Below.refl _ _);clear h ok dh fq hK lm qN apC yR aqe JX eo;go_wp2_with fail;go_ret2;exact Oq.d
def av7(h:nH F w b s)(b5:8<=w.heap.size)(X:s.nj.length<=100)(m:Int):ey 21 #[M b,q m] w fun e w'=>e=.returned (q (if (xp s.nj m).isSome then 0 else 8))/\vE F w b {s with nj:=Ga s.nj m} w':=by
 have ht:=u (atV h b5 X m);clear h;cases aj:(xp s.nj m).isSome with
 | true=>rw[aj] at ht;clear aj;go_enter func21,ntmps21;go_wp2_with (go_at_call 44;refine ht.d.mono ?_;rintro e S ⟨rfl,bi⟩);go_ret;exact⟨rfl,bi⟩
 | false=>rw[aj] at ht;clear aj;go_enter func21,ntmps21;go_wp2_with (go_at_call 44;refine ht.d.mono ?_;rintro e S ⟨rfl,bi⟩);go_ret;exact⟨rfl,bi⟩
def fB.len{a:Option Addr}(h:fB F w (.slice a n c) l):n=l.length:=by obtain⟨rs,h1,H⟩:=h;obtain⟨nB,e7,e⟩:=cG h1.1;injection e
def avl(h:nH F w b s):ey 7 #[M b] w (gU w (q (s.jr.count:Int))):=by obtain⟨aw,c,b6,bt,pa,cj,lc,aX,bD,pn,pc,h1,H,ab,aK⟩:=h;obtain⟨aqW,aE,bs,g0,g1,g2,g3⟩:=h1;have c1:dp w b 1=some (.slice b6 cj lc):=g1.cell (i:=1) rfl;have c2:dp w b 2=some (.slice bt aX bD):=g1.cell (i:=2) rfl;have dZ:dp w b 3=some (q (s.jr.count:Int)):=g1.cell (i:=3) rfl;have aN:=u (ank b6 bt cj lc aX bD (s.jr.count:Int) w);clear aw H ab aK g0 g1 g2 g3;go_enter func7,ntmps7;go_wp2_with (go_at_call 25;refine aN.d.mono ?_;rintro e S ⟨rfl,bi⟩);go_ret;exact⟨rfl,bi⟩
def aq5(h:nH F w b s):ey 8 #[M b] w (gU w (q (s.jr.log.length:Int))):=by obtain⟨aw,c,b6,bt,pa,cj,lc,aX,bD,pn,pc,h1,H,ab,aK⟩:=h;obtain⟨aqW,aE,bs,g0,g1,g2,g3⟩:=h1;have c1:dp w b 1=some (.slice b6 cj lc):=g1.cell (i:=1) rfl;have c2:dp w b 2=some (.slice bt aX bD):=g1.cell (i:=2) rfl;have dZ:dp w b 3=some (q (s.jr.count:Int)):=g1.cell (i:=3) rfl;rw[<-H.len];have aN:=u (awL b6 bt cj lc aX bD (s.jr.count:Int) w);clear aw H ab aK g0 g1 g2 g3;go_enter func8,ntmps8;go_wp2_with (go_at_call 26;refine aN.d.mono ?_;rintro e S ⟨rfl,bi⟩);go_ret;exact⟨rfl,bi⟩
def awP{jx:World}{c:Nat->Nat}{b6 bt pa:Option Addr}{cj lc aX bD pn pc:Nat}(b5:8<=w.heap.size)(aw:∀k,F k->oN w k/\8<=k){jr:qh}(h1:h2 (eT F c 0) jx b ⟨.slice b6 cj lc,.slice bt aX bD,q (jr.count:Int),.slice pa pn pc,q (s.last:Int)⟩ s.ck)(H:fB (db (eT F c 1) w) jx (.slice b6 cj lc) jr.log)(ab:fB (db (eT F c 1) w) jx (.slice bt aX bD) jr.ng)(aK:eg (eT F c 2) jx 97 5 (.slice pa pn pc) s.nj.length (s.nj.flatMap xi))(hs:da F w jx):vE F w b {s with jr:=jr} jx:=by
 have fH:∀i U,eT F c i U->U<w.heap.size:=fun i U ae=>by obtain⟨⟨cs,t,m,bo,_⟩,_⟩:=aw U ae.1;exact jq bo
 refine⟨fun U=>db F w U/\oN jx U,⟨fun U ae=>⟨ae.2,?_⟩,va c w 1,b6,bt,pa,cj,lc,aX,bD,pn,pc,?_,?_,?_,?_⟩,fun U ae=>?_,hs⟩
 ·rcases ae.1 with⟨_,h⟩ | h
  ·exact(aw U h).2
  ·omega
 ·refine h1.jW.move (dj.to fun U _ ae=>?_);have jz:=fH _ U ae.1;exact⟨⟨db.fH jz ae.1.1,ae.2⟩,by unfold va;rw[if_pos jz];exact ae.1.2⟩
 ·exact H.jW.move (dj.to fun U _ ae=>⟨⟨(zL ae.1).1,ae.2⟩,(zL ae.1).2⟩)
 ·exact ab.jW.move (dj.to fun U _ ae=>⟨⟨(zL ae.1).1,ae.2⟩,(zL ae.1).2⟩)
 ·refine(aK.jW (by simp[oM])).move (dj.to fun U _ ae=>?_);have jz:=fH _ U ae.1;exact⟨⟨db.fH jz ae.1.1,ae.2⟩,by unfold va;rw[if_pos jz];exact ae.1.2⟩
 ·rcases ae.1 with⟨_,h⟩ | h
  ·exact .inl h
  ·exact .inr h
def YD(s:ni):Nat:=PO (fun p=>PU p.since p.form p.span s.ck.dS s.jr.log) s.jr.count s.nj
def ad1(s:ni):qh:=⟨q0 (YD s:Int) s.jr.log,q0 (YD s:Int) s.jr.ng,s.jr.count⟩
def awQ(h:nH F w b s)(b5:8<=w.heap.size)(mn:s.nj.length<=100)(ZG:∀C∈s.jr.log,C.2.length=3)(kz:s.jr.log.length<=10000)(nu:s.jr.ng.length<=10000)(DV:∀p∈s.nj,-1000000000000<=p.span/\p.span<=1000000000000)(dA : -1000000000000<=s.ck.dS)(er:s.ck.dS<=1000000000000):ey 6 #[M b] w fun e w'=>(∃v,e=.returned v)/\vE F w b {s with jr:=ad1 s} w':=by
 obtain⟨aw,c,b6,bt,pa,cj,lc,aX,bD,pn,pc,h1,H,ab,aK⟩:=id h;obtain⟨aqW,aE,bs,g0,g1,g2,g3⟩:=id h1;have Pz:F b/\c b=0:=g1.1.1;have eU:w.heap[b]?=some (.cells #[aE,.slice b6 cj lc,.slice bt aX bD,q (s.jr.count:Int),.slice pa pn pc,q (s.last:Int),q s.ck.dS] 63 (0,0)):=g1.2;have bc:=jq eU;have vH:Hid (∀W,eB w W->(dp W b 1=some (.slice b6 cj lc)/\dp W b 2=some (.slice bt aX bD)/\dp W b 3=some (q (s.jr.count:Int))/\dp W b 6=some (q s.ck.dS))/\(W.frozen? ⟨b,1,none⟩=false/\W.frozen? ⟨b,2,none⟩=false/\W.frozen? ⟨b,3,none⟩=false)):=u (fun W A=>by
  have k:=Below.a8 A eU;exact⟨⟨Z k (i:=1) rfl,Z k (i:=2) rfl,Z k (i:=3) rfl,Z k (i:=6) rfl⟩,⟨aQ (i:=1) k,aQ (i:=2) k,aQ (i:=3) k⟩⟩)
 have vz:eB w w.drew:=⟨rfl,rfl,rfl,ap,fun _ _=>rfl⟩
 have awR:Hid (ey 24 #[.pointer (some ⟨b,4,none⟩),.agg #[.slice b6 cj lc,.slice bt aX bD,q (s.jr.count:Int)],q s.ck.dS] w.drew fun e J=>e=.returned (q (YD s:Int))/\(dp J b 1=some (.slice b6 cj lc)/\dp J b 2=some (.slice bt aX bD)/\dp J b 3=some (q (s.jr.count:Int))/\dp J b 6=some (q s.ck.dS))/\(J.frozen? ⟨b,1,none⟩=false/\J.frozen? ⟨b,2,none⟩=false/\J.frozen? ⟨b,3,none⟩=false)/\Hid (eB w J)):=u ((awM (fun p=>PU p.since p.form p.span s.ck.dS s.jr.log) s.nj b 4 (.slice pa pn pc) b6 bt cj lc aX bD s.jr.count s.ck.dS w.drew (Z (Below.a8 vz eU) (i:=4) rfl) bc aK.1.drew r (fun p aj W A=>(aur p.num p.since p.form s.jr.count p.span s.ck.dS p.x _ bt aX bD s.jr.log W (H.below (Below.fK vz A)) ZG kz (DV p aj).1 (DV p aj).2 dA er))).mono (by
  rintro e J ⟨rfl,bJ⟩;have A:=Below.fK vz bJ;obtain⟨aI,aZ⟩:=vH.d J A;exact⟨rfl,aI,aZ,u A⟩))
 have apn:Hid (∀J,eB w J->ey 23 #[.agg #[.slice b6 cj lc,.slice bt aX bD,q (s.jr.count:Int)],q (YD s:Int)] J fun e S=>∃a n k a2 b9 aZ,e=.returned (.agg #[.slice a n k,.slice a2 b9 aZ,q (s.jr.count:Int)])/\(dp S b 1=some (.slice b6 cj lc)/\dp S b 2=some (.slice bt aX bD)/\dp S b 3=some (q (s.jr.count:Int))/\dp S b 6=some (q s.ck.dS))/\(S.frozen? ⟨b,1,none⟩=false/\S.frozen? ⟨b,2,none⟩=false/\S.frozen? ⟨b,3,none⟩=false)/\Hid (vE F w b {s with jr:=ad1 s} (((S.setCell ⟨b,1,none⟩ (.slice a n k)).setCell ⟨b,2,none⟩ (.slice a2 b9 aZ)).setCell ⟨b,3,none⟩ (q (s.jr.count:Int))))):=u (fun J bJ=>by
  refine(aun (.slice b6 cj lc) (.slice bt aX bD) (YD s:Int) s.jr J (H.move (dj.mP bJ)) (ab.move (dj.mP bJ)) kz nu).mono ?_;rintro e S ⟨a,n,k,a2,b9,aZ,rfl,h0,gR,ah⟩;have A:=Below.fK bJ ah;obtain⟨aI,G0⟩:=vH.d S A;refine⟨a,n,k,a2,b9,aZ,rfl,aI,G0,u ?_⟩;have c7:=Below.a8 A eU;have Y:=hc (o:=1) c7 (.slice a n k);have am:=hc (o:=2) Y (.slice a2 b9 aZ);have bm:(((S.setCell ⟨b,1,none⟩ (.slice a n k)).setCell ⟨b,2,none⟩ (.slice a2 b9 aZ)).setCell ⟨b,3,none⟩ (q (s.jr.count:Int))).heap[b]?=some (.cells #[aE,.slice a n k,.slice a2 b9 aZ,q (s.jr.count:Int),.slice pa pn pc,q (s.last:Int),q s.ck.dS] 63 (0,0)):=hc (o:=3) am _
  have b3:fB (db (eT F c 1) w) _ (.slice a n k) (q0 (YD s:Int) s.jr.log):=(((h0.wide (Xs bJ.size)).set c7 K K 1 (.slice a n k)).set Y K K 2 (.slice a2 b9 aZ)).set am K K 3 (q (s.jr.count:Int));have z2:fB (db (eT F c 1) w) _ (.slice a2 b9 aZ) (q0 (YD s:Int) s.jr.ng):=(((gR.wide (Xs bJ.size)).set c7 K K 1 (.slice a n k)).set Y K K 2 (.slice a2 b9 aZ)).set am K K 3 (q (s.jr.count:Int));have dd:da (fun U=>U=b) w (((S.setCell ⟨b,1,none⟩ (.slice a n k)).setCell ⟨b,2,none⟩ (.slice a2 b9 aZ)).setCell ⟨b,3,none⟩ (q (s.jr.count:Int))):=(da.of A).andThen ((da.set (F:=fun U=>U=b) b 1 _ rfl).andThen ((da.set (F:=fun U=>U=b) b 2 _ rfl).andThen (da.set (F:=fun U=>U=b) b 3 _ rfl)))
  refine awP (c:=c) (jr:=ad1 s) b5 aw (h1.put (fun as6 e=>?_) (fun U ae av ar=>dd.block U ae ar)) b3 z2 (aK.move (fun U ae av=>⟨av,dd.block U ae (fun e=>?_)⟩)) (dd.mono (fun U _ e=>?_))
  ·rw[g1.2] at e;injection e with e;injection e with e _;obtain rfl:aE=as6:=bx (congrArg (fun a=>a[0]?) e);exact bm
  ·have:=av.2;rw[e,Pz.2] at this;cases this
  ·rw[e];exact Pz.1)
 obtain⟨⟨c1,c2,dZ,jy⟩,⟨f1,f2,f3⟩⟩:=vH.d w (Below.refl _ _);generalize YD s=axP at *;clear h aw h1 H ab aK g0 g1 g2 g3 eU vz vH;go_enter func6,ntmps6;go_region_law (first
  | (go_simp;go_at_call 23;refine(apn.d J yM.d).mono ?_;rintro e S ⟨a,n,k,a2,b9,aZ,rfl,⟨p1,p2,fw,sQ⟩,⟨q1,bN,fR⟩,as9⟩)
  | (go_simp;go_at_call 24;refine awR.d.mono ?_;rintro e J ⟨rfl,⟨m1,m2,m3,m6⟩,⟨cX,cA,hy⟩,yM⟩))
 all_goals
  go_wp2_with fail;go_end0;exact⟨⟨_,rfl⟩,as9.d⟩
def avm(ae:A1 td eH=0)(ag:hC eH=some (ts,t)):aJ t 2/\mr t/\3*nq t<=900/\0<=mM ts:=by
 obtain⟨ko,mW⟩:=Xn (aoC ag) (Pq ag);have ut:0<=mM ts/\pj td t=0:=by
  unfold A1 at ae;split at ae
  ·rename_i h;exact absurd ae h
  ·rw[ag] at ae;simp only[] at ae;split at ae
   ·cases ae
   ·rename_i h;exact⟨r,ae⟩
 have ou:eh td [] t=true/\h6 t=false:=by
  have ut:=ut.2;unfold pj at ut;split at ut
  ·rename_i h;refine⟨h,?_⟩;split at ut
   ·cases ut
   ·rename_i H;simpa using H
  ·cases ut
 exact⟨ko,yO t 2 [] ko ou.1 ou.2,by have lq:2*nq t<=400:=mW;omega,ut.1⟩
def Il(bd:List bG)(p:n9)(t:aL)(W:World):Prop:=(∃lo hi td j,oJ td (uO j bd)/\dK td W t [] lo hi [M p.x])/\aJ t 2/\mr t/\3*nq t<=900/\-1000000000000<=p.span/\p.span<=1000000000000
def Il.aaX{bd:List bG}{p:n9}{t:aL}{W aU:World}(h:Il bd p t W)(A:ki W aU):Il bd p t aU:=by obtain⟨⟨lo,hi,td,j,h1,H⟩,ab⟩:=h;exact⟨⟨lo,hi,td,j,h1,H.aaX A⟩,ab⟩
def Il.B{bd aq6:List bG}(h:Il bd p t W)(he:aq6.map (fun t=>(t.name,t.bl))=bd.map (fun t=>(t.name,t.bl))):Il aq6 p t W:=by obtain⟨⟨lo,hi,td,j,h1,H⟩,ab⟩:=h;refine⟨⟨lo,hi,td,j,?_,H⟩,ab⟩;unfold oJ uO at h1 ⊢;rw[h1,List.map_append,List.map_append,he]
def PH(T:n9->aL)(g:hG)(j:qh)(p:n9):Bool:=Uq (A0 p.since p.form p.span g.dS j g.bY) g.dS (T p)
def avn(h1:nH F W b s)(aK:Ground W)(ok:hA N s.ck)(fit:lw s.ck)(cS:N<=1000000000)(lX:s.ck.bY=[iy])(aS:JW s.jr)(aj:s.nj.length<=100)(T:n9->aL)(bi:∀p∈s.nj,Il s.ck.bY p (T p) W)(cU eH:e6)(hu:cU.size<=1000000):ey 12 #[M b,.string cU,.string eH] W (JA F W b (gE (PH T s.ck) s cU eH)):=by
 have f1:=aS.vc;have f2:=aS.log;have f3:=aS.Py;have bM : -1000000000000<=s.ck.dS:=by have:=ok.zN;omega
 refine XV (PH T s.ck) h1 ok fit aK cU eH hu r r r r (fun p AK aU b6 bt hM cj lc aX bD CM nd uf A oE kv bw avo=>?_);obtain⟨⟨lo,hi,td,atH,q1,bN⟩,fR,iK,j4,km,SI⟩:=bi p AK;have apc:=apA lX ok fit cS aS avo;have g1:=apc.vc;have g2:=apc.log;have g3:=apc.Py;exact auu (F:=fun k=>k<aU.heap.size) (td:=td) (bd:=s.ck.bY) (t:=T p) (lo:=lo) (hi:=hi) p.num p.since p.form p.span s.ck.dS p.x b6 bt hM cj lc aX bD CM nd uf aU oE kv (fun C ag=>(apc.cX C ag).1) r r km SI (by rw[lX];show 1<=900;omega) bw (fun h5 v ah nN=>⟨fun k=>k<h5.heap.size,auw (fit.B ok) apc _ _ _ _,q1,bM,ok.ya,fR,iK,j4,((aK.below A).below ah).vC.lt,((aK.below A).below ah).vC,(bN.below A).below ah,nN.inside,fun k hk=>hk⟩) bM ok.ya
def YL:hA 5 (⟨[⟨fL,mA,[],0⟩],0⟩:hG):=by have:=(hA.zero 5).create fL F8;rw[PE] at this;exact this
def Gc:hA 6 (⟨r9,0⟩:hG)/\lw (⟨r9,0⟩:hG):=by have h1:=YL.insert fL [⟨#[55]⟩,⟨#[39,113,39]⟩];have H:=(lw.zero.create fL F8).insert fL [⟨#[55]⟩,⟨#[39,113,39]⟩];rw[PE] at H;rw[Yb] at h1 H;exact⟨h1,H⟩
def YM:hA 6 (⟨vI,0⟩:hG)/\lw (⟨vI,0⟩:hG):=by have h1:=Gc.1.delete fL 1;have H:=Gc.2.delete fL 1;have e:pz (⟨r9,0⟩:hG) fL 1=(0,⟨vI,0⟩):=Yc;rw[e] at h1 H;exact⟨h1,H⟩
def YN{g:Nat}{x y:e6}(h:w.heap[g]?=some (.cells #[.string x,.string y] 9 (0,0))):zG w g [x,y]:=fun i hi=>by
 have H:i=0\/i=1:=by simp at hi;omega
 rcases H with rfl | rfl
 ·exact Z h (i:=0) rfl
 ·exact Z h (i:=1) rfl
def YO(cD:List (Int×Int))(uN:Value)(w:World)(dh:Ground w)(hit:CY w uN cD):ey 4 #[uN] w fun e w'=>∃b,e=.returned (M b)/\gF w b (mB cD (min cD.length 12)) w':=by
 obtain⟨⟨a,af,rfl,hit⟩,b7,k7⟩:=hit;have aqf:=u hit;have AB:=u k7;have YP:=u (ao8 w dh);have YQ:Hid (∀W b,gF w b Js W->ey 10 #[M b,.string ⟨#[116]⟩,.string ⟨#[120,58,105,44,121,58,116]⟩] W fun e aU=>e=.returned (q 0)/\Hid (gF w b ⟨⟨[⟨fL,mA,[],0⟩],0⟩,⟨[],[],0⟩,[],0⟩ aU)):=u (fun W b h=>by
  have:=ao6 h (hA.zero 5) fL F8 K K;refine this.mono ?_;rintro e aU ⟨rfl,hk⟩;have gi:=hk.out.1;have c7:lL Js.ck fL F8=(0,⟨[⟨fL,mA,[],0⟩],0⟩):=PE;rw[c7] at gi ⊢;exact⟨rfl,u gi⟩)
 have YR:Hid (∀W b,gF w b ⟨⟨[⟨fL,mA,[],0⟩],0⟩,⟨[],[],0⟩,[],0⟩ W->ey 11 #[M b,.string ⟨#[116]⟩,.slice (some ⟨W.heap.size,0,none⟩) 2 2] (W.alloc (.cells #[.string ⟨#[55]⟩,.string ⟨#[39,113,39]⟩] 9)) fun e aU=>e=.returned (.tuple #[q 1,q 0])/\Hid (gF w b JI aU)):=u (fun W b h=>by
  have dF:=(Below.refl W.heap.size W).alloc ap (.cells #[.string ⟨#[55]⟩,.string ⟨#[39,113,39]⟩] 9);have qy:=bH W (.cells #[.string ⟨#[55]⟩,.string ⟨#[39,113,39]⟩] 9);have:=Yh (h.below dF) YL K fL W.heap.size 2 [⟨#[55]⟩,⟨#[39,113,39]⟩] (YN qy) (jq qy) K K;refine this.mono ?_;rintro e aU ⟨rfl,hk⟩;have gi:=hk.out.1;have c7:mF ⟨[⟨fL,mA,[],0⟩],0⟩ fL [⟨#[55]⟩,⟨#[39,113,39]⟩]=(1,0,⟨r9,0⟩):=Yb;rw[c7] at gi ⊢;exact⟨rfl,u gi⟩)
 have C3:Hid (∀W b,gF w b JI W->ey 12 #[M b,.string ⟨#[117]⟩,.string ⟨#[115,101,108,101,99,116,32,97,46,120,44,32,97,46,121,32,102,114,111,109,32,116,32,97]⟩] W fun e aU=>∃dc de,e=.returned (.tuple #[.agg #[.slice dc 1 de,q 0],q 0])/\Hid (fW 0 aU (.slice dc 1 de) JH/\gF w b ⟨⟨r9,0⟩,nh hS 0 [(fL,1)] ⟨[],[],0⟩,[],0⟩ aU)):=u (fun W b h=>by
  refine(Yi h Gc.1 Gc.2 hS CU K K K K rfl).mono ?_;rintro e aU ⟨dc,on,de,rfl,hk⟩;obtain⟨ct,bZ,_⟩:=hk.out;rw[ao4] at ct bZ ⊢;have PR:on=1:=by obtain⟨bE,C,am,_⟩:=id ct;obtain⟨nB,e7,Y⟩:=cG C;injection Y with _ Y _;rw[Y,am];rfl
  subst PR;exact⟨dc,de,rfl,u ⟨ct,bZ⟩⟩)
 have C1:Hid (∀W b,gF w b ⟨⟨r9,0⟩,nh hS 0 [(fL,1)] ⟨[],[],0⟩,[],0⟩ W->ey 13 #[M b,.string ⟨#[116]⟩,q 1] W fun e aU=>e=.returned (q 0)/\Hid (gF w b JJ aU/\ki W aU)):=u (fun W b h=>by
  refine(ao7 h Gc.1 fL 1).mono ?_;rintro e aU ⟨rfl,hk⟩;have gi:=hk.out;have c7:pz (⟨r9,0⟩:hG) fL 1=(0,⟨vI,0⟩):=Yc;rw[c7] at gi ⊢;exact⟨rfl,u gi⟩)
 have vD:Hid (∀W b,gF w b JJ W->ey 12 #[M b,.string ⟨#[117]⟩,.string ⟨#[115,101,108,101,99,116,32,97,46,120,32,102,114,111,109,32,116,32,97]⟩] W fun e aU=>∃dc de,e=.returned (.tuple #[.agg #[.slice dc 0 de,q 0],q 0])/\Hid (gF w b AT aU/\ki W aU)):=u (fun W b h=>by
  refine(Yi h YM.1 YM.2 hS CV K K K K rfl).mono ?_;rintro e aU ⟨dc,on,de,rfl,hk⟩;obtain⟨ct,bZ⟩:=hk.out;rw[ao5] at ct bZ ⊢;have PR:on=0:=by obtain⟨bE,C,am,_⟩:=id ct;obtain⟨nB,e7,Y⟩:=cG C;injection Y with _ Y _;rw[Y,am];rfl
  subst PR;exact⟨dc,de,rfl,u bZ⟩)
 clear dh hit k7;go_enter func4,ntmps4;go_upto_region 7 with(first
  | (go_at_call 12;refine(C3.out aA b l2.out).mono ?_;rintro e bI ⟨dc,de,rfl,l9⟩)
  | (go_at_call 11;refine(YR.out S b iH.out).mono ?_;rintro e aA ⟨rfl,l2⟩)
  | (go_at_call 10;refine(YQ.out J b H1.out).mono ?_;rintro e S ⟨rfl,iH⟩)
  | (go_at_call 9;refine YP.out.mono ?_;rintro e J ⟨b,rfl,H1⟩))
 go_upto_region 9 with(first
  | (go_at_call 12;refine(vD.out bh b rq.out.1).mono ?_;rintro e cw ⟨rl,vL,rfl,p6⟩)
  | (go_at_call 13;refine(C1.out _ b (l9.out.2.below cT)).mono ?_;rintro e bh ⟨rfl,rq⟩))
 have PS:Hid (gF w b AT (cw.alloc (.cells #[.slice rl 0 vL,q 0] 40))):=u (p6.out.1.below cT);obtain⟨g,aC,bA,ib,rfl,rfl,d0,d1,d2,d3,d4⟩:∃g aC bA ib,dc=some ⟨g,0,none⟩/\aC=some ⟨ib,0,none⟩/\(cw.alloc (.cells #[.slice rl 0 vL,q 0] 40)).cell? ⟨bI.heap.size,0,none⟩=some (.slice dc 1 de)/\(cw.alloc (.cells #[.slice rl 0 vL,q 0] 40)).cell? ⟨g,0,none⟩=some (.slice aC 2 bA)/\(cw.alloc (.cells #[.slice rl 0 vL,q 0] 40)).cell? ⟨ib,0,none⟩=some (.string ⟨#[55]⟩)/\(cw.alloc (.cells #[.slice rl 0 vL,q 0] 40)).cell? ⟨ib,1,none⟩=some (.string ⟨#[39,113,39]⟩)/\(cw.alloc (.cells #[.slice rl 0 vL,q 0] 40)).cell? ⟨cw.heap.size,0,none⟩=some (.slice rl 0 vL):=by
  have av:ki (bI.alloc (.cells #[.slice dc 1 de,q 0] 40)) (cw.alloc (.cells #[.slice rl 0 vL,q 0] 40)):=(rq.out.2.trans p6.out.2).trans (ki.below cT);have fA:=av.other _ _ _ _ (bH bI _) (F9 (.inr (.inr (.inr rfl))));have ct:=av.out (l9.out.1.below ((Below.refl _ _).alloc ap (.cells #[.slice dc 1 de,q 0] 40)));obtain⟨bE,C,am,k⟩:=ct;have kz:bE.length=1:=am;have lK:(cw.alloc (.cells #[.slice rl 0 vL,q 0] 40)).ownsRow 0 46 2 (.slice dc bE.length de) bE.length (bE.flatMap CH):=by rw[kz] at C ⊢;exact C
  obtain⟨g,eX,R,bk,c1⟩:=Ps lK 0 r;obtain⟨aI,_⟩:=k 0 r (by show 0<1;omega);obtain⟨aC,bA,Y⟩:=cG aI;rw[Y] at bk aI;obtain⟨ib,ev,_,nc⟩:=PF (l:=[⟨#[55]⟩,⟨#[39,113,39]⟩]) aI 0 (by show 0<2;omega);obtain⟨atD,C4,_,s1⟩:=PF (l:=[⟨#[55]⟩,⟨#[39,113,39]⟩]) aI 1 (by show 1<2;omega);rw[ev] at C4;injection C4 with C4;injection C4 with C4;subst C4;exact⟨g,aC,bA,ib,eX,ev,Z fA (i:=0) rfl,bk,nc,s1,Z (bH cw _) (i:=0) rfl⟩
 generalize cw.alloc (.cells #[.slice rl 0 vL,q 0] 40)=YS at *;clear YP YQ YR C3 C1 vD H1 iH l2 l9 rq p6;go_upto_region 12 with fail;clear d0 d1 d2 d3 d4;have H4:Hid (gF w b (mB cD 0) YS):=u PS.out;have kO:Hid (eB w YS):=u PS.out.ho;clear PS;go_loopg [5,6,12] 13 (fun U Ya kr gr wr=>∃k:Nat,gr=q (k:Int)/\k<=cD.length/\k<=12/\Hid (gF w b (mB cD k) wr)/\12-k<U);case atStart=>exact⟨0,rfl,bu,bu,H4,r⟩
 case round=>
  obtain⟨k,rfl,bZ,dR,e1,ae⟩:=hrel;by_cases jl:k<cD.length
  ·by_cases I4:k<12
   ·have JR:(k:Int)<(cD.length:Int):=r;have atE:(k:Int)<12:=r;obtain⟨g2,off,rfl,bC,iV⟩:∃g off,a=some ⟨g,off,none⟩/\g<w.heap.size/\∀i (h:i<cD.length),dp w g (off+i*2)=some (q cD[i].1)/\dp w g (off+i*2+1)=some (q cD[i].2):=by
     rcases aqf.out with h | h
     ·rw[h] at jl;exact absurd jl (fp _)
     ·exact h
    obtain⟨bz,cz,fP,mq⟩:=AB.out _ (ec jl);have ko:cD.getD k (0,0)=cD[k]:=by rw[List.getD_eq_getElem?_getD,fC jl];rfl
    have PT:Hid (mF (uM cD k) fL [nk cD[k].1,nl cD[k].2]=(k+2,0,uM cD (k+1))):=u (by have:=Ym cD k I4;rw[ko] at this;exact this);have uu:Hid (∀W,eB w W->dp W g2 (off+k*2)=some (q cD[k].1)/\dp W g2 (off+k*2+1)=some (q cD[k].2)):=u (fun W A=>⟨(A.cell (p:=⟨g2,off+k*2,none⟩) bC).trans (iV k jl).1,(A.cell (p:=⟨g2,off+k*2+1,none⟩) bC).trans (iV k jl).2⟩);have q9:IntKind.i64.wrap ((k:Int)+2)=(k:Int)+2:=mC;have q8:IntKind.i64.wrap ((k:Int)+1)=(k:Int)+1:=mC;clear iV ko;generalize cD[k]=aqg at *;obtain⟨q2,q3⟩:=aqg;simp only[] at bz cz fP mq PT uu;have vz:eB wr wr.drew:=⟨rfl,rfl,rfl,ap,fun _ _=>rfl⟩
    have aqh:Hid (ey 14 #[q q2] wr.drew fun e J=>e=.returned (.string (nk q2))/\(dp J g2 (off+k*2)=some (q q2)/\dp J g2 (off+k*2+1)=some (q q3))/\Hid (gF w b (mB cD k) J)):=u ((aoP q2 wr.drew bz cz).mono (by
     rintro e J ⟨rfl,A⟩;have h1:=(e1.out.below vz).below A;exact⟨rfl,uu.out J h1.ho,u h1⟩))
    have aqi:Hid (∀W,gF w b (mB cD k) W->ey 15 #[q q3] W fun e S=>e=.returned (.string (nl q3))/\(dp S g2 (off+k*2)=some (q q2)/\dp S g2 (off+k*2+1)=some (q q3))/\Hid (gF w b (mB cD k) S)):=u (fun W h=>(aoQ q3 W fP mq).mono (by
     rintro e S ⟨rfl,A⟩;have h1:=h.below A;exact⟨rfl,uu.out S h1.ho,u h1⟩))
    have aqj:Hid (∀W,gF w b (mB cD k) W->ey 11 #[M b,.string ⟨#[116]⟩,.slice (some ⟨W.heap.size,0,none⟩) 2 2] (W.alloc (.cells #[.string (nk q2),.string (nl q3)] 9)) fun e aA=>e=.returned (.tuple #[q ((k:Int)+2),q 0])/\(dp aA g2 (off+k*2)=some (q q2)/\dp aA g2 (off+k*2+1)=some (q q3))/\Hid (gF w b (mB cD (k+1)) aA)):=u (fun W h=>by
     have dF:=(Below.refl W.heap.size W).alloc ap (.cells #[.string (nk q2),.string (nl q3)] 9);have qy:=bH W (.cells #[.string (nk q2),.string (nl q3)] 9);have:=Yh (h.below dF) (PG cD k dR).1 r fL W.heap.size 2 [nk q2,nl q3] (YN qy) (jq qy) (by show 2<=2000000;omega) (fun t au=>by
      have q1:=(Yj q2).2.2;have bN:=(Yk q3).2.2;rcases List.mem_cons.1 au with rfl | au
      ·omega
      ·obtain rfl:=ic au;omega)
     refine this.mono ?_;rintro e aA ⟨rfl,hk⟩;have gi:=hk.out.1;have c7:mF (mB cD k).ck fL [nk q2,nl q3]=(k+2,0,uM cD (k+1)):=PT.out;rw[c7] at gi ⊢;have YT:gF w b (mB cD (k+1)) aA:=gi;exact⟨rfl,uu.out aA YT.ho,u YT⟩)
    obtain⟨nc,s1⟩:=uu.out wr e1.out.ho;generalize nk q2=atF at *;generalize nl q3=atG at *;have ch:=u ae;clear ae bz cz fP mq PT vz bC uu;go_upto_region 14 with fail;go_region_held3 (fun w'=>w'.cell? ⟨g2,off+k*2,none⟩=some (q q2)/\w'.cell? ⟨g2,off+k*2+1,none⟩=some (q q3)) (go_keep) (first
     | (go_at_call 11;refine(aqj.out S kh.out).mono ?_;rintro e aA ⟨rfl,⟨bk,c1⟩,oO⟩)
     | (go_at_call 15;refine(aqi.out J jd.out).mono ?_;rintro e S ⟨rfl,⟨hr,cN⟩,kh⟩)
     | (go_at_call 14;refine aqh.out.mono ?_;rintro e J ⟨rfl,⟨a0,bq⟩,jd⟩))
    all_goals
     clear nc s1 a0 bq hr cN bk c1;go_wp2_with fail;have ae:=ch.out;go_roundg (gk-1);case measure=>omega
     case rel=>exact⟨k+1,by go_num,r,r,oO,r⟩
   ·have vq:k=12:=r;subst vq;have JR:((12:Nat):Int)<(cD.length:Int):=r;have bK:Hid (min cD.length 12=12):=u r;clear ae;go_wp2_with fail;go_ret;exact⟨b,rfl,by rw[bK.out];exact e1.out⟩
  ·have vq:k=cD.length:=r;have JR:(cD.length:Int)<=(k:Int):=r;have bK:Hid (min cD.length 12=k):=u r;clear ae vq;go_wp2_with fail;go_ret;exact⟨b,rfl,by rw[bK.out];exact e1.out⟩
def atI(bd:List bG):oJ (pq bd) bd:=by unfold oJ pq;rw[List.map_map];rfl
def av8:UO []:=⟨bu,fun C ag=>absurd ag (ax4),fun C ag=>absurd ag (ax4)⟩
def avr(s:e6)(fe:List Nat):kq s fe<=2:=by
 unfold kq;split
 ·decide
 ·split
  ·split<;>decide
  ·decide
def avs(td:List eb)(s:e6):hN td s<=5:=by
 unfold hN;split
 ·exact bX (avr s [0]) K
 ·split
  ·decide
  ·unfold pj;split
   ·split
    ·decide
    ·split<;>decide
   ·decide
structure gQ (w:World) (cN:Nat) (s1:ni) (bL:Nat) (s2:ni) (W:World):Prop where
 own:∃UM UN,nH UM W cN s1/\nH UN W bL s2/\(∀k,UM k->¬UN k)/\(∀k,UM k->w.heap.size<=k)/\∀k,UN k->w.heap.size<=k
 ho:eB w W
 xo:Ground W
def gQ.of{J:World}(h1:gF w cN s1 J)(H:gF J bL s2 S):gQ w cN s1 bL s2 S:=by obtain⟨⟨UM,bq,a2⟩,a3,a4⟩:=h1;obtain⟨⟨UN,c1,c2⟩,dZ,gp⟩:=H;refine⟨⟨UM,UN,bq.aside (G:=fun _=>False) ⟨dZ.os,dZ.tape,dZ.output,dZ.size,fun k hk _=>dZ.block k hk⟩ (fun _ _=>id),c1,fun k x y=>?_,a2,fun k hk=>bX a3.size (c2 k hk)⟩,Below.fK a3 dZ,gp⟩;have:=bq.fH k x;have:=c2 k y;omega
def gQ.swap(h:gQ w cN s1 bL s2 W):gQ w bL s2 cN s1 W:=by obtain⟨⟨UM,UN,bq,a2,a3,a4,a5⟩,kG,jv⟩:=h;exact⟨⟨UN,UM,a2,bq,fun k x y=>a3 k y x,a5,a4⟩,kG,jv⟩
def gQ.below{w W aU:World}{cN bL:Nat}{s1 s2:ni}(h:gQ w cN s1 bL s2 W)(A:eB W aU):gQ w cN s1 bL s2 aU:=by obtain⟨⟨UM,UN,bq,a2,a3,a4,a5⟩,kG,jv⟩:=h;have st:da (fun _=>False) W aU:=⟨A.os,A.tape,A.output,A.size,fun k hk _=>A.block k hk⟩;exact⟨⟨UM,UN,bq.aside st (fun _ _=>id),a2.aside st (fun _ _=>id),a3,a4,a5⟩,Below.fK kG A,jv.below A⟩
def CY.below{l:List (Int×Int)}(h:CY w v l)(A:eB w w'):CY w' v l:=by
 obtain⟨⟨a,af,e,h1⟩,H,ab⟩:=h;refine⟨⟨a,af,e,?_⟩,H,ab⟩;rcases h1 with h1 | ⟨g,off,Y,R,ai⟩
 ·exact .inl h1
 ·exact .inr ⟨g,off,Y,e0 R A.size,fun i hi=>⟨(A.cell (p:=⟨g,off+i*2,none⟩) R).trans (ai i hi).1,(A.cell (p:=⟨g,off+i*2+1,none⟩) R).trans (ai i hi).2⟩⟩
def gQ.call{G:Nat->Prop}(h1:∀k,F k->oN W k/\8<=k)(H:nH G W c bp)(ab:∀k,F k->w.heap.size<=k)(aK:∀k,G k->w.heap.size<=k)(cO:∀k,F k->¬G k)(A:eB w W)(R:Ground W)(bi:vE F W b fu aU):gQ w b fu c bp aU/\ki W aU:=by
 obtain⟨F',aI,aZ,a6⟩:=bi;refine⟨⟨⟨F',G,aI,H.aside a6 (fun k hk av=>cO k av hk),fun U ae R=>?_,fun U ae=>?_,aK⟩,⟨a6.os.trans A.os,a6.tape.trans A.tape,a6.output.trans A.output,bX A.size a6.size,fun U ae=>?_⟩,R.anx a6 (fun U ae=>(h1 U ae).2)⟩,ki.of a6 h1⟩
 ·rcases aZ U ae with h | h
  ·exact cO U h R
  ·have:=H.fH U R;omega
 ·rcases aZ U ae with h | h
  ·exact ab U h
  ·exact bX A.size h
 ·exact(a6.block U (e0 ae A.size) (fun x=>by have:=ab U x;omega)).trans (A.block U ae)
def acn(h:gQ w b s c bp W)(ok:hA N s.ck)(fit:lw s.ck)(cS:N<=1000000000)(lX:s.ck.bY=[iy])(aS:JW s.jr)(aj:s.nj.length<=100)(T:n9->aL)(bi:∀p∈s.nj,Il s.ck.bY p (T p) W)(cU eH:e6)(hu:cU.size<=1000000):ey 12 #[M b,.string cU,.string eH] W fun e aU=>∃a n k,e=.returned (.tuple #[.agg #[.slice a n k,q ((gE (PH T s.ck) s cU eH).Jt:Int)],q ((gE (PH T s.ck) s cU eH).qk:Int)])/\Hid (fW 0 aU (.slice a n k) (gE (PH T s.ck) s cU eH).out/\gQ w b (gE (PH T s.ck) s cU eH).FX c bp aU/\ki W aU):=by
 obtain⟨⟨F,G,h1,H,cO,ab,aK⟩,cE,kD⟩:=h;refine(avn h1 kD ok fit cS lX aS aj T bi cU eH hu).mono ?_;rintro e aU ⟨a,n,k,rfl,ct,bi⟩;exact⟨a,n,k,rfl,u ⟨ct,gQ.call h1.1 H ab aK cO cE kD bi⟩⟩
def aqq(h:gQ w b s c bp W)(X:s.nj.length<=100)(m:Int):ey 21 #[M b,q m] W fun e aU=>e=.returned (q (if (xp s.nj m).isSome then 0 else 8))/\Hid (gQ w b {s with nj:=Ga s.nj m} c bp aU/\ki W aU):=by obtain⟨⟨F,G,h1,H,cO,ab,aK⟩,cE,kD⟩:=h;refine(av7 h1 kD.uJ.js X m).mono ?_;rintro e aU ⟨rfl,bi⟩;exact⟨rfl,u (gQ.call h1.1 H ab aK cO cE kD bi)⟩
def YG(g:hG)(c:Nat)(eH:e6):Sum Nat (List l7):=if hN (pq g.bY) eH≠0 then .inl (hN (pq g.bY) eH) else match hC eH with
 | none=>.inl 1
 | some x=>match oK g.bY g.dS (eM x.2) x.2 with
  | none=>.inl 6
  | some out=>if 60<=c then .inl 7 else .inr out
def atN(ae:hN td eH=0):∃x,hC eH=some x:=by
 cases aa:hC eH with
 | none=>
  have:kq eH [0]=1:=by unfold kq;rw[aa]
  unfold hN at ae;rw[if_pos (by rw[this];decide),this] at ae;cases ae
 | some x=>exact⟨x,rfl⟩
def apf(f:qh->n9->Bool)(s:ni)(hu:¬(cU.data.toList=[]\/jf cU.data.toList=false))(eH:e6):(∃oC,oC≠0/\oC<=7/\YG s.ck s.jr.count eH=.inl oC/\gE f s cU eH=⟨oC,0,[],s⟩)\/(∃out,YG s.ck s.jr.count eH=.inr out/\apq s cU eH (nh cU s.ck.dS (hj (out.map (·.2))) s.jr)/\gE f s cU eH=if oa (f (nh cU s.ck.dS (hj (out.map (·.2))) s.jr)) s.nj≠0 then ⟨10,oa (f (nh cU s.ck.dS (hj (out.map (·.2))) s.jr)) s.nj,[],s⟩ else ⟨0,0,out,{s with jr:=nh cU s.ck.dS (hj (out.map (·.2))) s.jr}⟩):=by
 unfold gE YG;rw[if_neg hu];by_cases ae:hN (pq s.ck.bY) eH≠0
 ·rw[if_pos ae,if_pos ae];exact .inl ⟨_,ae,bX (avs _ _) K,rfl,rfl⟩
 ·rw[if_neg ae,if_neg ae];have zb:hN (pq s.ck.bY) eH=0:=by simpa using ae
  obtain⟨x,aa⟩:=atN zb;rw[aa];simp only[];cases ak:oK s.ck.bY s.ck.dS (eM x.2) x.2 with
  | none=>exact .inl ⟨6,K,K,rfl,rfl⟩
  | some out=>
   simp only[];by_cases ai:60<=s.jr.count
   ·rw[if_pos ai,if_pos ai];exact .inl ⟨7,K,K,rfl,rfl⟩
   ·rw[if_neg ai,if_neg ai];have hw:jf cU.data.toList=true:=by
     cases aa:jf cU.data.toList with
     | true=>rfl
     | false=>exact absurd (.inr aa) hu
    exact .inr ⟨out,rfl,⟨pq s.ck.bY,x.1,x.2,out,atI _,zb,aa,ak,r,hw,rfl⟩,rfl⟩
def awr(ok:hA N g)(fit:lw g)(cS:N<=1000000000){out:List l7}(h:YG g c eH=.inr out):UO out:=by
 unfold YG at h;split at h
 ·cases h
 ·rename_i ae;have zb:hN (pq g.bY) eH=0:=by simpa using ae
  obtain⟨x,aa⟩:=atN zb;rw[aa] at h;simp only[] at h;cases ak:oK g.bY g.dS (eM x.2) x.2 with
  | none=>rw[ak] at h;cases h
  | some o=>
   rw[ak] at h;simp only[] at h;split at h
   ·cases h
   ·injection h with h;subst h;exact avy ok fit cS (atI _) zb (ts:=x.1) (t:=x.2) aa ak
def ahQ(e:Int):∀(l:je),l.Pairwise (fun a b=>a.1<=b.1)->q0 e l=l.filter fun C=>decide (e<(C.1:Int))
 | [],_=>rfl
 | a::C,h=>by
  obtain⟨h1,H⟩:=List.pairwise_cons.1 h;have aH:=ahQ e C H;unfold q0 at aH ⊢;rw[List.findIdx?_cons];by_cases ak:e<(a.1:Int)
  ·rw[if_pos (ax3 ak),List.filter_cons,if_pos (ax3 ak)];show a::C=_;congr 1;symm;apply List.filter_eq_self.2;intro b A;have:=h1 b A;exact ax3 r
  ·rw[if_neg (by simpa using ak),List.filter_cons,if_neg (by simpa using ak),<-aH];cases C.findIdx? (fun C=>decide (e<(C.1:Int)))<;>rfl
def akg(a b:Nat)(h:l.Pairwise (fun a b=>a.1<=b.1)):q0 (a:Int) (q0 (b:Int) l)=q0 ((max a b:Nat):Int) l:=by rw[ahQ _ l h,ahQ _ l h,ahQ _ _ (h.filter _),List.filter_filter];apply List.filter_congr;intro C _;by_cases h1:a<C.1<;>by_cases H:b<C.1<;>simp[h1,H]<;>omega
def aq7(c:Nat){m:je}(h:(l++m).Pairwise (fun a b=>a.1<=b.1))(hm:∀C∈m,c<C.1):q0 (c:Int) (l++m)=q0 (c:Int) l++m:=by rw[ahQ _ _ h,ahQ _ l (List.pairwise_append.1 h).1,List.filter_append];congr 1;apply List.filter_eq_self.2;intro C ag;exact ax3 (by have:=hm C ag;omega)
def vM.le(h:vM l):l.Pairwise (fun a b=>a.1<=b.1):=h.1.imp fun h=>Nat.le_of_lt h.1
def awS(t:Int)(c:Nat)(h:vM l):max c (Gb t (q0 (c:Int) l))=max c (Gb t l):=by
 have A:q0 (c:Int) l=l.filter fun C=>decide ((c:Int)<(C.1:Int)):=ahQ _ _ h.le;have hs:vM (q0 (c:Int) l):=by rw[A];exact h.sub List.filter_sublist
 have mem:∀C,C∈q0 (c:Int) l↔C∈l/\c<C.1:=fun C=>by rw[A,List.mem_filter];simp
 apply Nat.le_antisymm
 ·rcases akb t (q0 (c:Int) l) with e | ⟨C,ag,e⟩
  ·omega
  ·have i1:=ajX t _ hs C ag;have i2:=ajX t l h C ((mem C).1 ag).1;omega
 ·rcases akb t l with e | ⟨C,ag,e⟩
  ·omega
  ·by_cases ai:c<C.1
   ·have tw:=(mem C).2 ⟨ag,ai⟩;have i1:=ajX t _ hs C tw;have i2:=ajX t l h C ag;omega
   ·omega
def awT{t t':Int}(au:t<=t')(h:vM l):Gb t l<=Gb t' l:=by
 rcases akb t l with e | ⟨C,ag,e⟩
 ·omega
 ·have i1:=ajX t l h C ag;have i2:=ajX t' l h C ag;omega
def aq8(since form:Nat)(span O:Int)(c:Nat)(h:vM l):max c (PU since form span O (q0 (c:Int) l))=max c (PU since form span O l):=by
 unfold PU;split
 ·rfl
 ·have:=awS (O-span) c h;omega
def awU(since form:Nat)(span O:Int)(c n:Nat)(bd:List bG)(h1:vM j.log)(H:j.ng.Pairwise (fun a b=>a.1<=b.1))(ai:c<=PU since form span O j.log):A0 since form span O ⟨q0 (c:Int) j.log,q0 (c:Int) j.ng,n⟩ bd=A0 since form span O j bd:=by have e:=aq8 since form span O c h1;unfold A0;show [Al (q0 _ (q0 _ _)),Am (q0 _ (q0 _ _))]++bd=_;rw[akg _ _ h1.le,akg _ _ H,Nat.max_comm,e,Nat.max_eq_right ai]
def awV{x:Nat×List al}(h:∀C∈l,C.1<=x.1):PU since form span O l<=PU since form span O (l++[x]):=by
 unfold PU;split
 ·exact ap
 ·rw[aq3];split
  ·rcases akb (O-span) l with e | ⟨C,ag,e⟩
   ·omega
   ·have:=h C ag;omega
  ·exact ap
def awW{ap7:Int}(ar:O<=ap7)(h:vM l):PU since form span O l<=PU since form span ap7 l:=by
 unfold PU;split
 ·exact ap
 ·have:=awT (t:=O-span) (t':=ap7-span) r h;omega
def ara(f:n9->Nat):∀(l:List n9) (n:Nat),PO f n l<=n/\∀p∈l,PO f n l<=f p
 | [],n=>⟨ap,fun p aj=>by cases aj⟩
 | U::C,n=>by
  obtain⟨h1,H⟩:=ara f C (min n (f U));have e:PO f n (U::C)=PO f (min n (f U)) C:=rfl;rw[e];refine⟨r,fun p aj=>?_⟩;rcases List.mem_cons.1 aj with rfl | aj
  ·omega
  ·exact H p aj
def pW(p:n9):Nat×Nat×Nat×Int:=(p.num,p.since,p.form,p.span)
structure DT (s:ni):Prop where
 jr:JW s.jr
 full:s.jr.log.length=s.jr.count
 YE:vM s.jr.log
 ahS:s.jr.ng.Pairwise (fun a b=>a.1<=b.1)
 top:∀C∈s.jr.log,C.1<=s.jr.count/\UP C<=s.ck.dS
 akc:∀C∈s.jr.ng,C.1<=s.jr.count
structure Cut (s bp:ni):Prop where
 ck:bp.ck=s.ck
 last:bp.last=s.last
 nj:bp.nj.map pW=s.nj.map pW
 cut:∃c:Nat,c<=s.jr.count/\bp.jr=⟨q0 (c:Int) s.jr.log,q0 (c:Int) s.jr.ng,s.jr.count⟩/\∀p∈s.nj,c<=PU p.since p.form p.span s.ck.dS s.jr.log
def Cut.count{s bp:ni}(h:Cut s bp):bp.jr.count=s.jr.count:=by obtain⟨c,_,e,_⟩:=h.cut;rw[e]
def arb{f g:n9->Bool}:∀{l m:List n9},m.map pW=l.map pW->(∀p∈l,∀U,pW U=pW p->g U=f p)->oa g m=oa f l
 | [],[],_,_=>rfl
 | [],_::_,h,_=>by cases h
 | _::_,[],h,_=>by cases h
 | p::l,U::m,h,av=>by rw[List.map_cons,List.map_cons] at h;injection h with h1 H;have e:=av p (ax6 ..) U h1;have oC:U.num=p.num:=congrArg (·.1) h1;rw[oa,oa,e,oC,arb H (fun p aj=>av p (List.mem_cons_of_mem _ aj))]
def awX(vK:Nat->aL)(g:hG)(j uf:qh){U:n9}(ae:pW U=pW p)(hs:A0 p.since p.form p.span g.dS uf g.bY=A0 p.since p.form p.span g.dS j g.bY):PH (fun p=>vK p.num) g uf U=PH (fun p=>vK p.num) g j p:=by obtain⟨a,b,c,aq,e⟩:=p;obtain⟨nB,kH,e7,iA,bo⟩:=U;unfold pW at ae;simp only[Prod.mk.injEq] at ae;obtain⟨rfl,rfl,rfl,rfl⟩:=ae;unfold PH;simp only[] at hs ⊢;rw[hs]
def atQ(g:hG)(t:Int):g.dS<=(C2 g t).2.dS/\(C2 g t).2.bY=g.bY:=by
 unfold C2;split
 ·rename_i h;exact⟨by show g.dS<=t;omega,rfl⟩
 ·exact⟨Int.le_refl _,rfl⟩
def awY(g:hG)(n:e6)(v:e4):(mF g n v).2.2.dS=g.dS:=by
 unfold mF;split
 ·rfl
 ·split<;>rfl
def awZ(g:hG)(n:e6)(v:Int):(pz g n v).2.dS=g.dS:=by
 unfold pz;split
 ·rfl
 ·split<;>rfl
def DT.ck{s:ni}(h:DT s){g:hG}(R:s.ck.dS<=g.dS):DT {s with ck:=g}:=⟨h.jr,h.full,h.YE,h.ahS,fun C ag=>⟨(h.top C ag).1,by have:=(h.top C ag).2;show UP C<=g.dS;omega⟩,h.akc⟩
def Cut.to(h:Cut s bp)(av:DT s)(R:s.ck.dS<=g.dS):Cut {s with ck:=g} {bp with ck:=g}:=by obtain⟨h1,H,ab,c,aK,cO,cE⟩:=h;refine⟨rfl,H,ab,c,aK,cO,fun p aj=>bX (cE p aj) (awW R av.YE)⟩
def Cut.drop(h:Cut s bp)(m:Int):(xp bp.nj m).isSome=(xp s.nj m).isSome/\Cut {s with nj:=Ga s.nj m} {bp with nj:=Ga bp.nj m}:=by
 obtain⟨h1,H,ab,c,aK,cO,cE⟩:=h;have e:xp bp.nj m=xp s.nj m:=by
  have key:∀l:List n9,xp l m=(l.map pW).findIdx? fun x=>(x.1:Int)==m:=fun l=>by unfold xp;rw[List.findIdx?_map];rfl
  rw[key,key,ab]
 refine⟨by rw[e],h1,H,?_,c,aK,cO,fun p aj=>cE p ?_⟩
 ·show(Ga bp.nj m).map pW=(Ga s.nj m).map pW;unfold Ga;rw[e];cases xp s.nj m with
  | none=>exact ab
  | some i=>simp only[];rw[List.eraseIdx_eq_take_drop_succ,List.eraseIdx_eq_take_drop_succ,List.map_append,List.map_append,List.map_take,List.map_take,List.map_drop,List.map_drop,ab]
 ·have GK:p∈Ga s.nj m:=aj;unfold Ga at GK;split at GK
  ·exact GK
  ·exact List.mem_of_mem_eraseIdx GK
def Cut.add(h:Cut s bp)(f:Nat)(sp:Int)(x y n:Nat):Cut {s with nj:=s.nj++[⟨n,s.jr.count,f,sp,x⟩],last:=s.last+1} {bp with nj:=bp.nj++[⟨n,bp.jr.count,f,sp,y⟩],last:=bp.last+1}:=by
 have ai:=h.count;obtain⟨h1,H,ab,c,aK,cO,cE⟩:=h;refine⟨h1,by show bp.last+1=s.last+1;rw[H],?_,c,aK,cO,fun p aj=>?_⟩
 ·show(bp.nj++[_]).map pW=(s.nj++[_]).map pW;rw[List.map_append,List.map_append,ab,ai];rfl
 ·rcases ax5 (show p∈s.nj++[_] from aj) with aj | aj
  ·exact cE p aj
  ·obtain rfl:=ic aj;unfold PU;split
   ·exact aK
   ·show c<=max s.jr.count _;omega
def Cut.len(h:Cut s bp):bp.nj.length=s.nj.length:=by have:=congrArg List.length h.nj;rw[cZ,cZ] at this;exact this
def Cut.ap8(h:Cut s bp)(av:DT s):Cut s {bp with jr:=ad1 bp}:=by
 obtain⟨h1,H,ab,c,aK,cO,cE⟩:=h;have hle:=ara (fun p=>PU p.since p.form p.span bp.ck.dS bp.jr.log) bp.nj bp.jr.count;refine⟨h1,H,ab,max (YD bp) c,?_,?_,fun p aj=>?_⟩
 ·have Y:YD bp<=bp.jr.count:=hle.1;rw[cO] at Y;have am:YD bp<=s.jr.count:=Y;omega
 ·show ad1 bp=_;unfold ad1;rw[cO];show qh.mk (q0 _ (q0 _ _)) (q0 _ (q0 _ _)) _=_;rw[akg _ _ av.YE.le,akg _ _ av.ahS]
 ·have hm:pW p∈bp.nj.map pW:=by rw[ab];exact List.mem_map.2 ⟨p,aj,rfl⟩
  obtain⟨U,ae,e⟩:=List.mem_map.1 hm;have Y:YD bp<=PU U.since U.form U.span bp.ck.dS bp.jr.log:=hle.2 U ae;have am:=cE p aj;have bm:PU U.since U.form U.span bp.ck.dS bp.jr.log=PU p.since p.form p.span s.ck.dS (q0 (c:Int) s.jr.log):=by unfold pW at e;simp only[Prod.mk.injEq] at e;rw[e.2.1,e.2.2.1,e.2.2.2,h1,cO]
  have hq:=aq8 p.since p.form p.span s.ck.dS c av.YE;omega
def avb{α:Type}{n:Nat}:∀l:List α,l.Pairwise (fun _ _=>n<=n)
 | []=>List.Pairwise.nil
 | _::l=>List.pairwise_cons.2 ⟨fun _ _=>ap,avb l⟩
def DT.with{s:ni}(h:DT s){cU:e6}{ts:List fo}(aS:JW (nh cU s.ck.dS ts s.jr)):DT {s with jr:=nh cU s.ck.dS ts s.jr}:=by
 refine⟨aS,?_,?_,?_,fun C ag=>?_,fun C ag=>?_⟩
 ·show(s.jr.log++[_]).length=s.jr.count+1;rw[cu,h.full];rfl
 ·refine vM.snoc h.YE (fun C ag=>?_) (by show 1<=s.jr.count+1;omega);have:=h.top C ag;exact⟨by show C.1<s.jr.count+1;omega,this.2⟩
 ·refine List.pairwise_append.2 ⟨h.ahS,?_,fun a ak b A=>?_⟩
  ·exact List.pairwise_map.2 (avb ts)
  ·obtain⟨t,_,rfl⟩:=List.mem_map.1 A;have:=h.akc a ak;show a.1<=s.jr.count+1;omega
 ·rcases ax5 (show C∈s.jr.log++[_] from ag) with ag | ag
  ·have:=h.top C ag;exact⟨by show C.1<=s.jr.count+1;omega,this.2⟩
  ·obtain rfl:=ic ag;exact⟨ap,Int.le_refl _⟩
 ·rcases ax5 (show C∈s.jr.ng++_ from ag) with ag | ag
  ·have:=h.akc C ag;show C.1<=s.jr.count+1;omega
  ·obtain⟨t,_,rfl⟩:=List.mem_map.1 ag;exact ap
def aw0{ts:List fo}(h:DT {s with jr:=nh cU s.ck.dS ts s.jr})(ai:c<=s.jr.count):nh cU s.ck.dS ts ⟨q0 (c:Int) s.jr.log,q0 (c:Int) s.jr.ng,s.jr.count⟩=⟨q0 (c:Int) (nh cU s.ck.dS ts s.jr).log,q0 (c:Int) (nh cU s.ck.dS ts s.jr).ng,s.jr.count+1⟩:=by
 have Y:=aq7 c (l:=s.jr.log) (m:=[(s.jr.count+1,[iX ((s.jr.count+1:Nat):Int),CN cU,iX s.ck.dS])]) h.YE.le (fun C ag=>by
  obtain rfl:=ic ag;show c<s.jr.count+1;omega)
 have am:=aq7 c (l:=s.jr.ng) (m:=ts.map (fun (t:fo)=>(s.jr.count+1,[iX ((s.jr.count+1:Nat):Int),CN t.1,iX t.2]))) h.ahS (fun C ag=>by
  obtain⟨t,_,rfl⟩:=List.mem_map.1 ag;show c<s.jr.count+1;omega)
 show qh.mk (q0 _ _++_) (q0 _ _++_) _=qh.mk (q0 _ (s.jr.log++_)) (q0 _ (s.jr.ng++_)) _;rw[Y,am]
def Cut.ask(h:Cut s bp)(av:DT s)(ok:hA N s.ck)(fit:lw s.ck)(cS:N<=1000000000)(lX:s.ck.bY=[iy])(vK:Nat->aL)(hu:¬(cU.data.toList=[]\/jf cU.data.toList=false))(eH:e6):((gE (PH (fun p=>vK p.num) bp.ck) bp cU eH).qk=(gE (PH (fun p=>vK p.num) s.ck) s cU eH).qk/\(gE (PH (fun p=>vK p.num) bp.ck) bp cU eH).Jt=(gE (PH (fun p=>vK p.num) s.ck) s cU eH).Jt/\(gE (PH (fun p=>vK p.num) bp.ck) bp cU eH).out=(gE (PH (fun p=>vK p.num) s.ck) s cU eH).out)/\DT (gE (PH (fun p=>vK p.num) s.ck) s cU eH).FX/\Cut (gE (PH (fun p=>vK p.num) s.ck) s cU eH).FX (gE (PH (fun p=>vK p.num) bp.ck) bp cU eH).FX:=by
 have ai:=h.count;have FD:YG bp.ck bp.jr.count eH=YG s.ck s.jr.count eH:=by rw[h.ck,ai]
 rcases apf (PH (fun p=>vK p.num) s.ck) s hu eH with⟨oC,bq,a2,a3,a4⟩ | ⟨out,bq,a2,a3⟩
 ·rcases apf (PH (fun p=>vK p.num) bp.ck) bp hu eH with⟨awu,cN,bL,fS,jg⟩ | ⟨out,cN,_⟩
  ·rw[FD,a3] at fS;injection fS with fS;subst fS;rw[a4,jg];exact⟨⟨rfl,rfl,rfl⟩,av,h⟩
  ·rw[FD,a3] at cN;cases cN
 ·rcases apf (PH (fun p=>vK p.num) bp.ck) bp hu eH with⟨awu,cN,bL,fS,jg⟩ | ⟨axi,cN,bL,fS⟩
  ·rw[FD,bq] at fS;cases fS
  ·rw[FD,bq] at cN;injection cN with cN;subst cN;have aS:=apA lX ok fit cS av.jr a2;have aus:=av.with aS;obtain⟨h1,H,ab,c,aK,cO,cE⟩:=h;have xv:=aw0 aus aK;have hle:∀p∈s.nj,c<=PU p.since p.form p.span s.ck.dS (nh cU s.ck.dS (hj (out.map (·.2))) s.jr).log:=fun p aj=>bX (cE p aj) (awV (fun C ag=>by have:=(av.top C ag).1;show C.1<=s.jr.count+1;omega));have avc:nh cU bp.ck.dS (hj (out.map (·.2))) bp.jr=⟨q0 (c:Int) (nh cU s.ck.dS (hj (out.map (·.2))) s.jr).log,q0 (c:Int) (nh cU s.ck.dS (hj (out.map (·.2))) s.jr).ng,s.jr.count+1⟩:=by rw[h1,cO,xv]
   have aw2:oa (PH (fun p=>vK p.num) bp.ck (nh cU bp.ck.dS (hj (out.map (·.2))) bp.jr)) bp.nj=oa (PH (fun p=>vK p.num) s.ck (nh cU s.ck.dS (hj (out.map (·.2))) s.jr)) s.nj:=by rw[avc,h1];exact arb ab (fun p aj U ae=>awX vK s.ck _ _ ae (awU _ _ _ _ c _ _ aus.YE aus.ahS (hle p aj)))
   rw[a3,fS,aw2];split
   ·exact⟨⟨rfl,rfl,rfl⟩,av,⟨h1,H,ab,c,aK,cO,cE⟩⟩
   ·exact⟨⟨rfl,rfl,rfl⟩,aus,⟨h1,H,ab,c,by show c<=s.jr.count+1;omega,avc,hle⟩⟩
structure G2 where
 kind:Int
 n:Int
 s:e6
variable{a:G2}
def AV(n:Int):e6:=⟨#[117,UInt8.ofNat (97+qZ n 3)]⟩
def avd(n:Int):¬((AV n).data.toList=[]\/jf (AV n).data.toList=false)/\(AV n).size<=1000000:=by have h:=(F7 (c:=n) (n:=3) K).2;unfold AV;generalize qZ n 3=k at *;rcases(by omega:k=0\/k=1\/k=2) with rfl | rfl | rfl<;>exact⟨K,K⟩
def VL(s:ni)(eH:e6):Nat×Nat:=if A1 (pq (uO s.jr s.ck.bY)) eH≠0 then (0,A1 (pq (uO s.jr s.ck.bY)) eH) else if 6<=s.nj.length then (0,7) else (s.last+1,0)
def YF(a b:Nat):e6:=im (a:Int)++⟨#[32]⟩++im (b:Int)
def PP(vK:Nat->aL)(s:ni)(cU eH:e6):XH:=gE (PH (fun p=>vK p.num) s.ck) s cU eH
def apt(vK:Nat->aL)(s:ni)(a:G2)(sy:e6)(fu:ni):Nat->Prop
 | 0=>sy=a7 (PX (PP vK s (AV a.n) a.s).qk (PP vK s (AV a.n) a.s).Jt (PP vK s (AV a.n) a.s).out)/\fu=(PP vK s (AV a.n) a.s).FX
 | 1=>sy=a7 (PX (PP vK s (AV a.n) a.s).qk (PP vK s (AV a.n) a.s).Jt (PP vK s (AV a.n) a.s).out)/\fu=(PP vK s (AV a.n) a.s).FX
 | 2=>sy=YF (VL s a.s).1 (VL s a.s).2/\(((VL s a.s).2≠0/\fu=s)\/((VL s a.s).2=0/\∃ts t x,hC a.s=some (ts,t)/\fu={s with nj:=s.nj++[⟨s.last+1,s.jr.count,gq ts,mM ts,x⟩],last:=s.last+1}))
 | 3=>sy=im (if (xp s.nj (1+(qZ a.n 8:Int))).isSome then 0 else 8)/\fu={s with nj:=Ga s.nj (1+(qZ a.n 8:Int))}
 | 4=>sy=im (C2 s.ck (qZ a.n 100:Int)).1/\fu={s with ck:=(C2 s.ck (qZ a.n 100:Int)).2}
 | 5=>sy=YF (mF s.ck fL [nk a.n,nl a.n]).1 (mF s.ck fL [nk a.n,nl a.n]).2.1/\fu={s with ck:=(mF s.ck fL [nk a.n,nl a.n]).2.2}
 | _=>sy=im ((pz s.ck fL (qZ a.n 20:Int)).1:Int)/\fu={s with ck:=(pz s.ck fL (qZ a.n 20:Int)).2}
def ap9(vK:Nat->aL)(s:ni)(a:G2)(sy:e6)(fu:ni):Prop:=apt vK s a sy fu (qZ a.kind 7)
def av9(h:Cut s bp)(eH:e6):VL bp eH=VL s eH:=by
 unfold VL;have e:pq (uO bp.jr bp.ck.bY)=pq (uO s.jr s.ck.bY):=by rw[h.ck];rfl
 rw[e,h.len,h.last]
def aw5{ajY:ni}{akd:e6}(h:Cut s bp)(av:DT s)(ok:hA N s.ck)(fit:lw s.ck)(cS:N<=1000000000)(lX:∃iy,s.ck.bY=[iy])(h1:ap9 vK s a sy fu)(H:ap9 vK bp a akd ajY):akd=sy/\DT fu/\Cut fu ajY:=by
 obtain⟨iy,lX⟩:=lX;have hk:=(F7 (c:=a.kind) (n:=7) K).2;unfold ap9 at h1 H;generalize qZ a.kind 7=k at *;have xm:apt vK s a sy fu 0->apt vK bp a akd ajY 0->akd=sy/\DT fu/\Cut fu ajY:=by rintro⟨rfl,rfl⟩ ⟨rfl,rfl⟩;obtain⟨⟨Y,am,bm⟩,hq,ol⟩:=h.ask av ok fit cS lX vK (avd a.n).1 a.s;refine⟨?_,hq,ol⟩;unfold PP;rw[Y,am,bm]
 rcases(by omega:k=0\/k=1\/k=2\/k=3\/k=4\/k=5\/k=6) with rfl | rfl | rfl | rfl | rfl | rfl | rfl
 ·exact xm h1 H
 ·exact xm h1 H
 ·obtain⟨rfl,h1⟩:=h1;obtain⟨rfl,H⟩:=H;rw[av9 h] at H;rw[av9 h];refine⟨rfl,?_⟩;rcases h1 with⟨bM,rfl⟩ | ⟨bM,ts,t,x,cX,rfl⟩
  ·rcases H with⟨b9,rfl⟩ | ⟨b9,_⟩
   ·exact⟨av,h⟩
   ·exact absurd b9 bM
  ·rcases H with⟨b9,_⟩ | ⟨b9,atq,t',y,cA,rfl⟩
   ·exact absurd bM b9
   ·rw[cX] at cA;injection cA with cA;injection cA with cA _;subst cA;refine⟨⟨av.jr,av.full,av.YE,av.ahS,av.top,av.akc⟩,?_⟩;have:=h.add (gq ts) (mM ts) x y (s.last+1);have e:bp.last+1=s.last+1:=by rw[h.last]
    rw[e] at this ⊢;exact this
 ·obtain⟨rfl,rfl⟩:=h1;obtain⟨rfl,rfl⟩:=H;obtain⟨Y,am⟩:=h.drop (1+(qZ a.n 8:Int));rw[Y];exact⟨rfl,⟨av.jr,av.full,av.YE,av.ahS,av.top,av.akc⟩,am⟩
 ·obtain⟨rfl,rfl⟩:=h1;obtain⟨rfl,rfl⟩:=H;have X:=(atQ s.ck (qZ a.n 100:Int)).1;rw[h.ck];exact⟨rfl,av.ck X,h.to av X⟩
 ·obtain⟨rfl,rfl⟩:=h1;obtain⟨rfl,rfl⟩:=H;have X:s.ck.dS<=(mF s.ck fL [nk a.n,nl a.n]).2.2.dS:=by rw[awY];exact Int.le_refl _
  rw[h.ck];exact⟨rfl,av.ck X,h.to av X⟩
 ·obtain⟨rfl,rfl⟩:=h1;obtain⟨rfl,rfl⟩:=H;have X:s.ck.dS<=(pz s.ck fL (qZ a.n 20:Int)).2.dS:=by rw[awZ];exact Int.le_refl _
  rw[h.ck];exact⟨rfl,av.ck X,h.to av X⟩
structure Good (vK:Nat->aL) (N:Nat) (s:ni) (W:World):Prop where
 ok:hA N s.ck
 fit:lw s.ck
 rT:∃iy,s.ck.bY=[iy]
 jr:JW s.jr
 wA:s.nj.length<=6
 num:∀p∈s.nj,p.num<=s.last
 last:s.last<=N
 YH:∀p∈s.nj,Il s.ck.bY p (vK p.num) W
def YV(vK:Nat->aL)(last:Nat)(eH:e6)(n:Nat):aL:=if n=last+1 then ((hC eH).getD ([],.nil)).2 else vK n
def Good.aaX{vK ajZ:Nat->aL}{N ox:Nat}{s:ni}{W aU:World}(h:Good vK N s W)(av:ki W aU)(awj:N<=ox)(bi:∀n,n<=s.last->ajZ n=vK n):Good ajZ ox s aU:=⟨h.ok.mono awj,h.fit,h.rT,h.jr,h.wA,h.num,bX h.last awj,fun p aj=>by rw[bi p.num (h.num p aj)];exact(h.YH p aj).aaX av⟩
def adx(vK:Nat->aL)(last:Nat)(eH:e6)(n:Nat)(h:n<=last):YV vK last eH n=vK n:=by unfold YV;rw[if_neg r]
def Good.awn(h:Good vK N s W)(aS:JW j):Good vK N {s with jr:=j} W:=⟨h.ok,h.fit,h.rT,aS,h.wA,h.num,h.last,h.YH⟩
def Good.aqb(h:Good vK N s W)(ok:hA N g)(fit:lw g)(e:g.bY.map (fun t=>(t.name,t.bl))=s.ck.bY.map (fun t=>(t.name,t.bl))):Good vK N {s with ck:=g} W:=⟨ok,fit,by
 obtain⟨iy,au⟩:=h.rT;have:=congrArg List.length e;rw[cZ,cZ,au] at this;exact List.length_eq_one_iff.1 this,h.jr,h.wA,h.num,h.last,fun p aj=>(h.YH p aj).B e⟩
def aqr{α β:Type}(f:α->β):∀(l:List α) (i:Nat) (t x:α),l[i]?=some t->f x=f t->(l.set i x).map f=l.map f
 | [],_,_,_,_,_=>rfl
 | a::l,0,t,x,h,e=>by rw[List.getElem?_cons_zero] at h;injection h with h;subst h;rw[List.set_cons_zero,List.map_cons,List.map_cons,e]
 | a::l,i+1,t,x,h,e=>by rw[List.getElem?_cons_succ] at h;rw[List.set_cons_succ,List.map_cons,List.map_cons,aqr f l i t x h e]
def aw6(ok:hA N g)(n:e6)(v:e4):(mF g n v).2.2.bY.map (fun t=>(t.name,t.bl))=g.bY.map (fun t=>(t.name,t.bl))/\(mF g n v).1<=N+1/\(mF g n v).2.1<=8:=by
 unfold mF;split
 ·exact⟨rfl,bu,Nat.le_of_ble_eq_true rfl⟩
 ·rename_i i hi;split
  ·exact⟨rfl,bu,Nat.le_of_ble_eq_true rfl⟩
  ·rename_i t au;have X:=(ok.B t (List.mem_of_getElem? au)).last;have key:((od t v).2.2.name,(od t v).2.2.bl)=(t.name,t.bl)/\(od t v).1<=N+1/\(od t v).2.1<=8:=by
    unfold od;split
    ·split
     ·exact⟨rfl,bu,Nat.le_of_ble_eq_true rfl⟩
     ·split
      ·split
       ·exact⟨rfl,bu,Nat.le_of_ble_eq_true rfl⟩
       ·exact⟨rfl,by show t.last+1<=N+1;omega,Nat.le_of_ble_eq_true rfl⟩
      ·exact⟨rfl,bu,Nat.le_of_ble_eq_true rfl⟩
    ·exact⟨rfl,bu,Nat.le_of_ble_eq_true rfl⟩
   exact⟨aqr _ _ _ _ _ au key.1,key.2⟩
def axb(g:hG)(n:e6)(v:Int):(pz g n v).2.bY.map (fun t=>(t.name,t.bl))=g.bY.map (fun t=>(t.name,t.bl))/\(pz g n v).1<=8:=by
 unfold pz;split
 ·exact⟨rfl,Nat.le_of_ble_eq_true rfl⟩
 ·split
  ·exact⟨rfl,Nat.le_of_ble_eq_true rfl⟩
  ·rename_i t au;have key:((sh t v).2.name,(sh t v).2.bl)=(t.name,t.bl)/\(sh t v).1<=8:=by
    unfold sh;split
    ·exact⟨rfl,Nat.le_of_ble_eq_true rfl⟩
    ·exact⟨rfl,Nat.le_of_ble_eq_true rfl⟩
   exact⟨aqr _ _ _ _ _ au key.1,key.2⟩
def axc(td:List eb)(s:e6):A1 td s<=5:=by
 unfold A1;split
 ·exact bX (avr s [1,2]) K
 ·split
  ·decide
  ·split
   ·decide
   ·unfold pj;split
    ·split
     ·decide
     ·split<;>decide
    ·decide
def axd(ts:e4):mM ts<=1000000000000:=by
 unfold mM;split
 ·exact(Sr _).high
 ·decide
def awo{f:n9->Bool}{L:Nat}:∀{l:List n9},(∀p∈l,p.num<=L)->oa f l<=L
 | [],_=>bu
 | p::C,h=>by
  rw[oa];split
  ·exact h p (ax6 ..)
  ·exact awo fun U ae=>h U (List.mem_cons_of_mem _ ae)
def Good.ask(h:Good vK N s W)(cS:N<=1000000000)(hu:¬(cU.data.toList=[]\/jf cU.data.toList=false))(eH:e6):(PP vK s cU eH).qk<=10/\(PP vK s cU eH).Jt<=N/\UO (PP vK s cU eH).out/\Good vK N (PP vK s cU eH).FX W/\(PP vK s cU eH).FX.last=s.last:=by
 obtain⟨iy,lX⟩:=h.rT;unfold PP;rcases apf (PH (fun p=>vK p.num) s.ck) s hu eH with⟨oC,bq,a2,a3,a4⟩ | ⟨out,bq,a2,a3⟩
 ·rw[a4];exact⟨by show oC<=10;omega,bu,av8,h,rfl⟩
 ·rw[a3];split
  ·exact⟨by show 10<=10;omega,bX (awo h.num) h.last,av8,h,rfl⟩
  ·exact⟨bu,bu,awr h.ok h.fit cS bq,h.awn (apA lX h.ok h.fit cS h.jr a2),rfl⟩
def Good.drop(h:Good vK N s W)(m:Int):Good vK N {s with nj:=Ga s.nj m} W:=by
 have hm:∀p∈Ga s.nj m,p∈s.nj:=fun p aj=>by
  unfold Ga at aj;split at aj
  ·exact aj
  ·exact List.mem_of_mem_eraseIdx aj
 have X:(Ga s.nj m).length<=s.nj.length:=by
  unfold Ga;split
  ·exact ap
  ·exact(List.eraseIdx_sublist ..).length_le
 exact⟨h.ok,h.fit,h.rT,h.jr,bX X h.wA,fun p aj=>h.num p (hm p aj),h.last,fun p aj=>h.YH p (hm p aj)⟩
def Good.ap8(h:Good vK N s W):Good vK N {s with jr:=ad1 s} W:=by have a:=h.jr;exact h.awn ⟨a.vc,bX (aqQ _ _) a.log,bX (aqQ _ _) a.Py,a.cX.behind,a.cA.behind⟩
def AW(vK:Nat->aL)(N:Nat)(w:World)(b c:Nat)(s bp:ni)(a:G2)(k:Nat)(W:World)(sy:e6)(aU:World):Prop:=∃fu,apt vK s a sy fu k/\gQ w b fu c bp aU/\Good (YV vK s.last a.s) (N+1) fu aU/\ki W aU
def AW.after{hz ih:World}(h:AW vK N w b c s bp a k W sy ih)(aw:ki hz W)(h1:eB ih aU):AW vK N w b c s bp a k hz sy aU:=by obtain⟨fu,H,ab,aK,cO⟩:=h;exact⟨fu,H,ab.below h1,aK.aaX (ki.below h1) ap (fun _ _=>rfl),(aw.trans cO).trans (ki.below h1)⟩
def awp(h:gQ w b s c bp W)(g:Good vK N s W)(cS:N<=1000)(a:G2)(k:Nat)(hk:k<=1):ey 12 #[M b,.string (AV a.n),.string a.s] W fun e aU=>∃(dc:Option Addr) (on de JN PQ:Nat) (Nj:List l7),e=.returned (.tuple #[.agg #[.slice dc on de,q (JN:Int)],q (PQ:Int)])/\JN<=1000/\PQ<=10/\Hid (fW 0 aU (.slice dc on de) Nj/\UO Nj/\AW vK N w b c s bp a k W (a7 (PX PQ JN Nj)) aU):=by
 obtain⟨iy,lX⟩:=g.rT;have hu:=avd a.n;refine(acn h g.ok g.fit r lX g.jr (by have:=g.wA;omega) (fun p=>vK p.num) g.YH (AV a.n) a.s hu.2).mono ?_;rintro e aU ⟨dc,on,de,rfl,ct⟩;obtain⟨jH,k2,rk⟩:=ct.out;obtain⟨g1,g2,g3,g4,g5⟩:=g.ask r hu.1 a.s;refine⟨dc,on,de,_,_,_,rfl,by have:=g2;exact bX this cS,g1,u ⟨jH,g3,_,?_,k2,g4.aaX rk (Nat.le_succ _) (fun n ar=>adx _ _ _ _ (by rw[g5] at ar;exact ar)),rk⟩⟩;rcases(by omega:k=0\/k=1) with rfl | rfl<;>exact⟨rfl,rfl⟩
def axe(h:gQ w b s c bp W)(g:Good vK N s W)(cS:N<=1000)(a:G2):ey 19 #[M b,.string a.s] W fun e aU=>∃(S6 PQ:Nat),e=.returned (.tuple #[q (S6:Int),q (PQ:Int)])/\S6<=1001/\PQ<=10/\Hid (AW vK N w b c s bp a 2 W (YF S6 PQ) aU):=by
 obtain⟨⟨F,G,h1,H,cO,ab,aK⟩,cE,kD⟩:=h;have axQ:=axc (pq (uO s.jr s.ck.bY)) a.s;have wx:=g.last;refine(avj h1 g.ok kD (by have:=g.wA;omega) r a.s).mono ?_;rintro e aU (⟨q1,rfl,bN⟩ | ⟨q1,fR,rfl,bN⟩ | ⟨q1,fR,rfl,ts,t,x,lo,hi,td,cX,cA,hy,Ch,bN⟩)
 ·obtain⟨aI,aZ⟩:=gQ.call h1.1 H ab aK cO cE kD bN;have e:VL s a.s=(0,A1 (pq (uO s.jr s.ck.bY)) a.s):=by unfold VL;rw[if_pos q1]
  exact⟨0,_,rfl,bu,r,u ⟨s,⟨by rw[e],.inl ⟨by rw[e];exact q1,rfl⟩⟩,aI,g.aaX aZ (Nat.le_succ _) (fun n ar=>adx _ _ _ _ ar),aZ⟩⟩
 ·obtain⟨aI,aZ⟩:=gQ.call h1.1 H ab aK cO cE kD bN;have e:VL s a.s=(0,7):=by unfold VL;rw[if_neg (fun h=>h q1),if_pos fR]
  exact⟨0,7,rfl,bu,r,u ⟨s,⟨by rw[e],.inl ⟨by rw[e];decide,rfl⟩⟩,aI,g.aaX aZ (Nat.le_succ _) (fun n ar=>adx _ _ _ _ ar),aZ⟩⟩
 ·obtain⟨aI,aZ⟩:=gQ.call h1.1 H ab aK cO cE kD bN;have e:VL s a.s=(s.last+1,0):=by unfold VL;rw[if_neg (fun h=>h q1),if_neg r]
  obtain⟨p1,p2,fw,pf⟩:=avm q1 cX;have dM:=g.aaX (ajZ:=YV vK s.last a.s) aZ (Nat.le_succ N) (fun n ar=>adx _ _ _ _ ar);refine⟨s.last+1,0,rfl,r,r,u ⟨_,⟨by rw[e],.inr ⟨by rw[e],ts,t,x,cX,rfl⟩⟩,aI,⟨dM.ok,dM.fit,dM.rT,dM.jr,?_,fun p aj=>?_,by show s.last+1<=N+1;omega,fun p aj=>?_⟩,aZ⟩⟩
  ·show(s.nj++[_]).length<=6;rw[cu];show _+1<=6;omega
  ·rcases ax5 (show p∈s.nj++[_] from aj) with aj | aj
   ·exact Nat.le_succ_of_le (g.num p aj)
   ·obtain rfl:=ic aj;exact ap
  ·rcases ax5 (show p∈s.nj++[_] from aj) with aj | aj
   ·exact dM.YH p aj
   ·obtain rfl:=ic aj;have Es:YV vK s.last a.s (s.last+1)=t:=by unfold YV;rw[if_pos rfl,cX];rfl
    show Il s.ck.bY _ (YV vK s.last a.s (s.last+1)) aU;rw[Es];exact⟨⟨lo,hi,td,s.jr,hy,Ch⟩,p1,p2,fw,by show(-1000000000000:Int)<=mM ts;omega,axd ts⟩
def axf(h:gQ w b s c bp W)(g:Good vK N s W)(cS:N<=1000)(a:G2):ey 21 #[M b,q (1+(qZ a.n 8:Int))] W fun e aU=>∃PQ:Int,e=.returned (q PQ)/\0<=PQ/\PQ<=10/\Hid (AW vK N w b c s bp a 3 W (im PQ) aU):=by refine(aqq h (by have:=g.wA;omega) (1+(qZ a.n 8:Int))).mono ?_;rintro e aU ⟨rfl,aa⟩;obtain⟨aI,aZ⟩:=aa.out;exact⟨_,rfl,by split<;>decide,by split<;>decide,u ⟨_,⟨rfl,rfl⟩,aI,(g.drop _).aaX aZ (Nat.le_succ _) (fun n ar=>adx _ _ _ _ ar),aZ⟩⟩
def axj(h:gQ w b s c bp W)(g:Good vK N s W)(cS:N<=1000)(a:G2):ey 22 #[M b,q (qZ a.n 100:Int)] W fun e aU=>∃PQ:Int,e=.returned (q PQ)/\0<=PQ/\PQ<=1000000000000/\Hid (AW vK N w b c s bp a 4 W (im PQ) aU):=by
 obtain⟨⟨F,G,h1,H,cO,ab,aK⟩,cE,kD⟩:=h;refine(awN h1 kD.uJ.js (qZ a.n 100:Int)).mono ?_;rintro e aU ⟨rfl,bi⟩;obtain⟨aI,aZ⟩:=gQ.call h1.1 H ab aK cO cE kD bi;have A:0<=(C2 s.ck (qZ a.n 100:Int)).1/\(C2 s.ck (qZ a.n 100:Int)).1<=1000000000000:=by
  have bk:=g.ok.zN;have c1:=g.ok.ya;unfold C2;split
  ·rename_i aa;exact⟨by show 0<=(qZ a.n 100:Int);omega,aa.2⟩
  ·exact⟨bk,c1⟩
 exact⟨_,rfl,A.1,A.2,u ⟨_,⟨rfl,rfl⟩,aI,(g.aqb (g.ok.tick _) (g.fit.tick _) (by rw[(atQ _ _).2])).aaX aZ (Nat.le_succ _) (fun n ar=>adx _ _ _ _ ar),aZ⟩⟩
def axm(h:gQ w b s c bp W)(g:Good vK N s W)(cS:N<=1000)(a:G2):ey 11 #[M b,.string ⟨#[116]⟩,.slice (some ⟨W.heap.size,0,none⟩) 2 2] (W.alloc (.cells #[.string (nk a.n),.string (nl a.n)] 9)) fun e aU=>∃(S6 PQ:Nat),e=.returned (.tuple #[q (S6:Int),q (PQ:Int)])/\S6<=1001/\PQ<=10/\Hid (AW vK N w b c s bp a 5 W (YF S6 PQ) aU):=by
 have dF:=(Below.refl W.heap.size W).alloc ap (.cells #[.string (nk a.n),.string (nl a.n)] 9);have qy:=bH W (.cells #[.string (nk a.n),.string (nl a.n)] 9);obtain⟨⟨F,G,h1,H,cO,ab,aK⟩,cE,kD⟩:=h.below dF;refine(anu h1 kD.uJ.js g.ok r fL W.heap.size 2 [nk a.n,nl a.n] (YN qy) (jq qy) (by show 2<=2000000;omega) (fun t au=>by
  have q1:=(Yj a.n).2.2;have bN:=(Yk a.n).2.2;rcases List.mem_cons.1 au with rfl | au
  ·omega
  ·obtain rfl:=ic au;omega)).mono ?_
 rintro e aU ⟨rfl,bi⟩;obtain⟨aI,aZ⟩:=gQ.call h1.1 H ab aK cO cE kD bi;obtain⟨t1,t2,t3⟩:=aw6 g.ok fL [nk a.n,nl a.n];have a6:=(ki.below dF).trans aZ;have dM:=g.aaX (ajZ:=YV vK s.last a.s) a6 (Nat.le_succ N) (fun n ar=>adx _ _ _ _ ar);exact⟨_,_,rfl,r,r,u ⟨_,⟨rfl,rfl⟩,aI,dM.aqb (g.ok.insert _ _) (g.fit.insert _ _) t1,a6⟩⟩
def axn(h:gQ w b s c bp W)(g:Good vK N s W)(cS:N<=1000)(a:G2):ey 13 #[M b,.string ⟨#[116]⟩,q (qZ a.n 20:Int)] W fun e aU=>∃PQ:Int,e=.returned (q PQ)/\0<=PQ/\PQ<=10/\Hid (AW vK N w b c s bp a 6 W (im PQ) aU):=by obtain⟨⟨F,G,h1,H,cO,ab,aK⟩,cE,kD⟩:=h;refine(anv h1 kD.uJ.js g.ok fL (qZ a.n 20:Int)).mono ?_;rintro e aU ⟨rfl,bi⟩;obtain⟨aI,aZ⟩:=gQ.call h1.1 H ab aK cO cE kD bi;obtain⟨t1,t2⟩:=axb s.ck fL (qZ a.n 20:Int);exact⟨_,rfl,r,r,u ⟨_,⟨rfl,rfl⟩,aI,(g.aqb (g.ok.delete _ _) (g.fit.delete _ _) t1).aaX aZ (Nat.le_succ _) (fun n ar=>adx _ _ _ _ ar),aZ⟩⟩
def axo(n:Int)(w:World)(aw : -9223372036854775808<=n)(h1:n<=9223372036854775807):ey 17 #[q n] w (ov w (.string (AV n))):=by
 have lm:=u (X7 n 3 w aw h1 K K);have aD:=(F7 (c:=n) (n:=3) K).2;unfold AV;generalize qZ n 3=k at *;clear aw h1;have hk:k=0\/k=1\/k=2:=r;clear aD;rcases hk with rfl | rfl | rfl
 all_goals
  go_enter func17,ntmps17;go_wp2_with (go_at_call 16;refine lm.out.mono ?_;rintro e w' ⟨rfl,rfl⟩);go_ret;exact⟨rfl,rfl⟩
def axp(n:Int)(aw:0<=n)(h1:n<=1000000000000):(im n).size<=40:=bX (Ik n r r) K
def axq(n:Int)(W:World)(aw:0<=n)(h1:n<=1000000000000):ey 20 #[q n] W fun e w'=>e=.returned (.string (im n))/\Hid (eB W w'):=(JF n W r r).mono (fun e w' h=>⟨h.1,u h.2⟩)
def aqs{fU:Array Value}{pQ:Nat×Nat}{t:TypeId}(cr:W.heap[aB]?=some (.cells cs 40 m))(h:W.heap[k]?=some (.cells fU t pQ))(au:t≠40):k≠aB:=by rintro rfl;rw[cr] at h;injection h with h;injection h with _ h;exact au h.symm
def axr{t:TypeId}(h:oM t):t≠40:=by rintro rfl;exact F9 (.inr (.inr (.inr rfl))) h
def AW.put{lu:World}(h:AW vK N w b c s bp a k W sy S)(cr:S.heap[aB]?=some (.cells cs 40 m))(aO:W.heap.size<=aB)(b5:8<=aB)(hw:w.heap.size<=aB)(hs:da (fun U=>U=aB) S lu):AW vK N w b c s bp a k W sy lu:=by
 obtain⟨fu,h1,⟨⟨F,G,Y,am,ol,bm,hq⟩,s8,wj⟩,ab,aK⟩:=h;have ne:∀(F:Nat->Prop) (b:Nat) (s:ni),nH F S b s->∀U,F U->¬U=aB:=fun F b s h U ae=>by obtain⟨⟨fU,t,pQ,e,Es⟩,_⟩:=h.1 U ae;exact aqs cr e (axr Es)
 refine⟨fu,h1,⟨⟨F,G,Y.aside hs (ne _ _ _ Y),am.aside hs (ne _ _ _ am),ol,bm,hq⟩,⟨hs.os.trans s8.os,hs.tape.trans s8.tape,hs.output.trans s8.output,bX s8.size hs.size,fun U ae=>(hs.block U (e0 ae s8.size) r).trans (s8.block U ae)⟩,wj.anx hs (fun U ae=>r)⟩,⟨ab.ok,ab.fit,ab.rT,ab.jr,ab.wA,ab.num,ab.last,fun p aj=>?_⟩,⟨bX aK.size hs.size,fun U fU t pQ e ar=>(hs.block U (e0 (jq e) aK.size) (by have:=jq e;omega)).trans (aK.other U fU t pQ e ar)⟩⟩;obtain⟨⟨lo,hi,td,j,p1,p2⟩,fw⟩:=ab.YH p aj;exact⟨⟨lo,hi,td,j,p1,p2.a8 (fun U fU pQ e _ _=>(hs.block U (jq e) (aqs cr e K)).trans e) (fun U fU pQ t' au e=>(hs.block U (jq e) (aqs cr e (by rcases au with rfl | rfl | rfl<;>decide))).trans e)⟩,fw⟩
def awq(h:gQ w b s c bp W)(g:Good vK N s W)(cS:N<=1000)(a:G2)(bZ : -9223372036854775808<=a.kind)(dR:a.kind<=9223372036854775807)(dA : -9223372036854775808<=a.n)(er:a.n<=9223372036854775807):ey 5 #[M b,.agg #[q a.kind,q a.n,.string a.s]] W fun e aU=>∃sy,e=.returned (.string sy)/\Hid (AW vK N w b c s bp a (qZ a.kind 7) W sy aU):=by
 have dF:eB W (W.alloc (.cells #[q a.kind,q a.n,.string a.s] 29)):=cT;have aT:=bH W (.cells #[q a.kind,q a.n,.string a.s] 29);have xF:=h.below dF;have th:=g.aaX (ajZ:=vK) (ki.below dF) (Nat.le_refl N) (fun _ _=>rfl);have SJ:=u (ki.below dF);clear h g dF;have aws:=u (X7 a.kind 7 (W.alloc (.cells #[q a.kind,q a.n,.string a.s] 29)) bZ dR K K);have jl:=(F7 (c:=a.kind) (n:=7) K).2;generalize qZ a.kind 7=bV at *;have rG:Hid (∀aU,ki (W.alloc (.cells #[q a.kind,q a.n,.string a.s] 29)) aU->dp aU W.heap.size 1=some (q a.n)/\dp aU W.heap.size 2=some (.string a.s)):=u (fun aU av=>by
  have k:=av.other _ _ _ _ aT (by unfold oM;decide);exact⟨Z k (i:=1) rfl,Z k (i:=2) rfl⟩)
 have dN:=Z aT (i:=0) rfl;obtain⟨bz,cz⟩:=rG.out _ ⟨ap,fun _ _ _ _ e _=>e⟩;have C5:=u (And.intro xF th);clear xF th aT bZ dR;go_enter func5,ntmps5;go_upto_block 0 with(go_at_call 16;refine aws.out.mono ?_;rintro e J ⟨rfl,rfl⟩);have axs:W.heap.size<(W.alloc (.cells #[q a.kind,q a.n,.string a.s] 29)).heap.size:=by simp
 generalize DP:W.alloc (.cells #[q a.kind,q a.n,.string a.s] 29)=hz at *;generalize Tw:W.heap.size=JY at *;have pm:¬JY=hz.heap.size:=r;have axR:¬hz.heap.size=JY:=r;clear DP Tw dN aws axs;have vz:eB hz hz.drew:=⟨rfl,rfl,rfl,ap,fun _ _=>rfl⟩;have Cb:gQ w b s c bp hz.drew/\Good vK N s hz.drew/\ki W hz.drew/\ki hz hz.drew:=⟨C5.out.1.below vz,C5.out.2.aaX (ki.below vz) ap (fun _ _=>rfl),SJ.out.trans (ki.below vz),ki.below vz⟩;clear vz;by_cases ai0:bV<=1
 ·have axt:Hid (∀aU,ey 17 #[q a.n] aU (ov aU (.string (AV a.n)))):=u (fun aU=>axo a.n aU dA er);have apJ:Hid (ey 12 #[M b,.string (AV a.n),.string a.s] hz.drew fun e S=>∃(dc:Option Addr) (on de JN PQ:Nat),e=.returned (.tuple #[.agg #[.slice dc on de,q (JN:Int)],q (PQ:Int)])/\(dp S JY 1=some (q a.n)/\dp S JY 2=some (.string a.s))/\Hid (ey 18 #[.agg #[.slice dc on de,q (JN:Int)],q (PQ:Int)] (S.alloc (.cells #[.slice dc on de,q (JN:Int)] 40)) fun e aA=>∃sy,e=.returned (.string sy)/\Hid (AW vK N w b c s bp a bV W sy aA))):=u ((awp Cb.1 Cb.2.1 cS a bV ai0).mono (by
   rintro e S ⟨dc,on,de,JN,PQ,Nj,rfl,d1,d2,aa⟩;obtain⟨jH,k2,rk⟩:=aa.out;have apK:ki hz.drew S:=by obtain⟨_,_,_,_,lq⟩:=rk;exact lq
   have dF:eB S (S.alloc (.cells #[.slice dc on de,q (JN:Int)] 40)):=cT;refine⟨dc,on,de,JN,PQ,rfl,rG.out _ (Cb.2.2.2.trans apK),u ?_⟩;refine(ans (.slice dc on de) (JN:Int) (PQ:Int) Nj _ (jH.below dF) k2 r r r r).mono ?_;rintro e aA ⟨rfl,cg⟩;exact⟨_,rfl,u (rk.after Cb.2.2.1 (Below.fK dF cg))⟩))
  have OO:Hid (ey 12 #[M b,.string (AV a.n),.string a.s] (hz.drew.alloc (.cells #[.slice none 0 0,q 0] 40)) fun e S=>∃(dc:Option Addr) (on de JN PQ:Nat),e=.returned (.tuple #[.agg #[.slice dc on de,q (JN:Int)],q (PQ:Int)])/\(dp S JY 1=some (q a.n)/\dp S JY 2=some (.string a.s))/\(dp S hz.heap.size 0=some (.slice none 0 0)/\dp S hz.heap.size 1=some (q 0)/\S.frozen? ⟨hz.heap.size,0,none⟩=false/\S.frozen? ⟨hz.heap.size,1,none⟩=false)/\Hid (ey 18 #[.agg #[.slice dc on de,q (JN:Int)],q (PQ:Int)] ((S.setCell ⟨hz.heap.size,0,none⟩ (.slice dc on de)).setCell ⟨hz.heap.size,1,none⟩ (q (JN:Int))) fun e aA=>∃sy,e=.returned (.string sy)/\Hid (AW vK N w b c s bp a bV W sy aA))):=u (by
   have dF:Below hz.drew.heap.size hz.drew (hz.drew.alloc (.cells #[.slice none 0 0,q 0] 40)):=cT;have qy:=bH hz.drew (.cells #[.slice none 0 0,q 0] 40);refine(awp (Cb.1.below dF) (Cb.2.1.aaX (ki.below dF) ap (fun _ _=>rfl)) cS a bV ai0).mono ?_;rintro e S ⟨dc,on,de,JN,PQ,Nj,rfl,d1,d2,aa⟩;obtain⟨jH,k2,rk⟩:=aa.out;have apK:ki (hz.drew.alloc (.cells #[.slice none 0 0,q 0] 40)) S:=by obtain⟨_,_,_,_,lq⟩:=rk;exact lq
   have cr:S.heap[hz.heap.size]?=some (.cells #[.slice none 0 0,q 0] 40 (0,0)):=apK.other _ _ _ _ qy (F9 (.inr (.inr (.inr rfl))));have Y:=hc (o:=0) cr (.slice dc on de);have s1:da (fun U=>U=hz.heap.size) S (S.setCell ⟨hz.heap.size,0,none⟩ (.slice dc on de)):=da.set hz.heap.size 0 _ rfl;have s2:da (fun U=>U=hz.heap.size) (S.setCell ⟨hz.heap.size,0,none⟩ (.slice dc on de)) ((S.setCell ⟨hz.heap.size,0,none⟩ (.slice dc on de)).setCell ⟨hz.heap.size,1,none⟩ (q (JN:Int))):=da.set hz.heap.size 1 _ rfl;refine⟨dc,on,de,JN,PQ,rfl,rG.out _ (Cb.2.2.2.trans ((ki.below dF).trans apK)),⟨Z cr (i:=0) rfl,Z cr (i:=1) rfl,aQ (i:=0) cr,aQ (i:=1) cr⟩,u ?_⟩;have mJ:=(rk.after (Cb.2.2.1.trans (ki.below dF)) (Below.refl _ _)).put cr Cb.2.2.1.size Cb.1.xo.uJ.js Cb.1.ho.size (s1.andThen s2)
   refine(ans (.slice dc on de) (JN:Int) (PQ:Int) Nj _ ((jH.set cr K K K 0 _).set Y K K K 1 _) k2 r r r r).mono ?_;rintro e aA ⟨rfl,cg⟩;exact⟨_,rfl,u (mJ.after ⟨ap,fun _ _ _ _ e _=>e⟩ cg)⟩)
  clear dA er C5 SJ rG Cb;generalize AV a.n=axS at *;rcases(by omega:bV=0\/bV=1) with rfl | rfl
  all_goals
   go_upto_region 4 with fail;go_region_held3 (fun w'=>w'.cell? ⟨JY,1,none⟩=some (q a.n)/\w'.cell? ⟨JY,2,none⟩=some (.string a.s)) (go_keep) (first
    | (go_at_call 12;refine OO.out.mono ?_;rintro e S ⟨dc,on,de,JN,PQ,rfl,⟨cN,bL⟩,⟨c1,c2,dZ,gp⟩,kh⟩)
    | (go_at_call 12;refine apJ.out.mono ?_;rintro e S ⟨dc,on,de,JN,PQ,rfl,⟨cN,bL⟩,kh⟩)
    | (go_at_call 17;refine(axt.out _).mono ?_;rintro e J ⟨rfl,rfl⟩))
   all_goals
    go_wp2_with (go_at_call 18;refine kh.out.mono ?_;rintro e aA ⟨sy,rfl,oO⟩);go_ret;exact⟨sy,rfl,oO⟩
 ·have vS:=u axq;have ajV:=u axp;have ael:Hid (∀(S6 PQ:Nat),S6<=1001->PQ<=10->∃ake aqt,YF S6 PQ=ake++⟨#[32]⟩++aqt/\ake.size<=40/\aqt.size<=40/\(∀aU,ey 20 #[q (S6:Int)] aU fun e w'=>e=.returned (.string ake)/\Hid (eB aU w'))/\∀aU,ey 20 #[q (PQ:Int)] aU fun e w'=>e=.returned (.string aqt)/\Hid (eB aU w')):=u (fun S6 PQ h1 H=>⟨_,_,rfl,ajV.out _ r r,ajV.out _ r r,fun aU=>vS.out _ aU r r,fun aU=>vS.out _ aU r r⟩);clear ajV;by_cases dR:bV=2\/bV=5
  ·have apF:=u (axe C5.out.1 C5.out.2 cS a);have aqh:Hid (ey 14 #[q a.n] hz.drew fun e J=>e=.returned (.string (nk a.n))/\dp J JY 1=some (q a.n)/\Hid (Below hz.drew.heap.size hz.drew J)):=u ((aoP a.n hz.drew dA er).mono (by
    rintro e J ⟨rfl,A⟩;exact⟨rfl,(rG.out J (Cb.2.2.2.trans (ki.below A))).1,u A⟩))
   have aqi:Hid (∀ih,Below hz.drew.heap.size hz.drew ih->ey 15 #[q a.n] ih fun e S=>e=.returned (.string (nl a.n))/\dp S JY 1=some (q a.n)/\Hid (Below hz.drew.heap.size hz.drew S)):=u (fun ih h1=>(aoQ a.n ih dA er).mono (by
    rintro e S ⟨rfl,A⟩;have ah:=Below.fK h1 A;exact⟨rfl,(rG.out S (Cb.2.2.2.trans (ki.below ah))).1,u ah⟩))
   have aqj:Hid (∀h5,Below hz.drew.heap.size hz.drew h5->ey 11 #[M b,.string ⟨#[116]⟩,.slice (some ⟨h5.heap.size,0,none⟩) 2 2] (h5.alloc (.cells #[.string (nk a.n),.string (nl a.n)] 9)) fun e aA=>∃(S6 PQ:Nat),e=.returned (.tuple #[q (S6:Int),q (PQ:Int)])/\dp aA JY 1=some (q a.n)/\S6<=1001/\PQ<=10/\Hid (AW vK N w b c s bp a 5 hz (YF S6 PQ) aA)):=u (fun h5 H=>(axm (Cb.1.below H) (Cb.2.1.aaX (ki.below H) ap (fun _ _=>rfl)) cS a).mono (by
    rintro e aA ⟨S6,PQ,rfl,d1,d2,aa⟩;have av:=Cb.2.2.2.trans (ki.below H);have xN:=aa.out.after av (Below.refl _ _);exact⟨S6,PQ,rfl,(rG.out aA (by obtain⟨_,_,_,_,lq⟩:=xN;exact lq)).1,d1,d2,u xN⟩))
   clear dA er C5 rG ai0 Cb vS;generalize nk a.n=atF at *;generalize nl a.n=atG at *;rcases dR with rfl | rfl
   go_upto_region 8 with(go_at_call 19;refine apF.out.mono ?_;rintro e aA ⟨S6,PQ,rfl,d1,d2,oO⟩);clear apF;rotate_left;focus
    go_upto_region 16 with fail;go_region_held3 (fun w'=>w'.cell? ⟨JY,1,none⟩=some (q a.n)) (go_keep) (first
    | (go_at_call 11;refine(aqj.out S kh.out).mono ?_;rintro e aA ⟨S6,PQ,rfl,c1,d1,d2,oO⟩)
    | (go_at_call 15;refine(aqi.out J jd.out).mono ?_;rintro e S ⟨rfl,cN,kh⟩)
    | (go_at_call 14;refine aqh.out.mono ?_;rintro e J ⟨rfl,bq,jd⟩))
   all_goals
    obtain⟨ake,aqt,Bd,q1,bN,o6,yx⟩:=ael.out S6 PQ d1 d2;rw[Bd] at oO;have aja:=u o6;have ET:=u yx;have b3:¬9223372036854775807<ake.size+1:=r;have z2:¬9223372036854775807<ake.size+1+aqt.size:=r;clear aqh aqi aqj d1 d2 bz cz Bd o6 yx ael;go_wp2_with (first
     | (go_at_call 20;refine(ET.out bI).mono ?_;rintro e bh ⟨rfl,F4⟩)
     | (go_at_call 20;refine(aja.out aA).mono ?_;rintro e bI ⟨rfl,pr⟩))
    go_ret;exact⟨_,rfl,u (oO.out.after SJ.out (Below.fK pr.out F4.out))⟩
  ·rcases(by omega:bV=3\/bV=4\/bV=6) with rfl | rfl | rfl
   have apF:=u (axf C5.out.1 C5.out.2 cS a);have adZ:=u (X7 a.n 8 hz dA er K K);have mn:=(F7 (c:=a.n) (n:=8) K).2;generalize qZ a.n 8=F0 at *;have ass:IntKind.i64.wrap (1+(F0:Int))=1+(F0:Int):=mC;rotate_left;have apF:=u (axj C5.out.1 C5.out.2 cS a);have adZ:=u (X7 a.n 100 hz dA er K K);generalize qZ a.n 100=F0 at *;rotate_left;have apF:=u (axn C5.out.1 C5.out.2 cS a);have adZ:=u (X7 a.n 20 hz dA er K K);generalize qZ a.n 20=F0 at *;all_goals
    clear dA er C5 rG ai0 Cb dR ael;go_wp2_with (first
     | (go_at_call 20;refine(vS.out PQ S d1 r).mono ?_;rintro e aA ⟨rfl,oO⟩)
     | (go_at_call 21;refine apF.out.mono ?_;rintro e S ⟨PQ,rfl,d1,d2,kh⟩)
     | (go_at_call 22;refine apF.out.mono ?_;rintro e S ⟨PQ,rfl,d1,d2,kh⟩)
     | (go_at_call 13;refine apF.out.mono ?_;rintro e S ⟨PQ,rfl,d1,d2,kh⟩)
     | (go_at_call 16;refine adZ.out.mono ?_;rintro e J ⟨rfl,rfl⟩))
    go_ret;exact⟨_,rfl,u (kh.out.after SJ.out oO.out)⟩
def AY(g:az->List (je)->az×List (je))(p:je->Bool)(R:∀st aP,st.dE=false->g st aP=(st,if p st.ad then aP++[st.ad] else aP)):∀(l:je) (st:az) (aP:List (je)),st.ad=[]->st.dE=false->oz g l st aP=(st,aP++(l.filter fun C=>p [C]).map fun C=>[C])
 | [],st,aP,_,_=>by simp[oz]
 | C::l,st,aP,aw,h1=>by
  obtain⟨ad,bF,eP,dE⟩:=st;simp only at aw h1;subst aw h1;rw[oz,R _ _ rfl];simp only[List.nil_append,List.length_singleton,Nat.sub_self,List.take_zero];rw[AY g p R l ⟨[],bF,eP,false⟩ _ rfl rfl];by_cases aj:p [C]=true
  ·simp[aj]
  ·simp[aj]
def AZ(a8:az->Bool×az)(ba:az->List al×az)(f:je->List al)(Cu:∀s,a8 s=(true,s))(hv:∀s,ba s=(f s.ad,s)):∀(l:je) (aP:List (List al×List (je))) (st:az),st.ad=[]->st.dE=false->(k8 a8 ba (l.map fun C=>[[C]]) aP st).1=aP++l.map (fun C=>(f [C],[[C]]))/\(k8 a8 ba (l.map fun C=>[[C]]) aP st).2.dE=false
 | [],aP,st,_,h1=>by simp[k8,h1]
 | C::l,aP,st,aw,h1=>by
  obtain⟨ad,bF,eP,dE⟩:=st;simp only at aw h1;subst aw h1;rw[List.map_cons,k8];simp only[Bool.false_eq_true,if_false];have e:mp a8 ba [[C]] ⟨[],bF,eP,false⟩=([(f [C],[[C]])],⟨[],[[C]],eP,false⟩):=by unfold mp;simp[Cu,hv]
  rw[e];have aH:=AZ a8 ba f Cu hv l (aP++[(f [C],[[C]])]) ⟨[],[[C]],eP,false⟩ rfl rfl;rw[aH.1];exact⟨by simp,aH.2⟩
def H9{B:List bG}{e wh:aL}{s:e6×e6}(ak:dJ e=false)(p:je->Bool)(hk:∀st,iZ (bR B O wh (ea B [s])) wh st=(p st.ad,st))(f:je->List al)(hv:∀st,hL (ea B [s]) O e st=(f st.ad,st))(ar:(gC B s).length<=20000):(bR B O (.query e [s] wh .nil .nil) [] nG).2.1=((gC B s).filter fun C=>p [C]).map (fun C=>(f [C],[[C]]))/\(bR B O (.query e [s] wh .nil .nil) [] nG).2.2.dE=false:=by
 have ai:fY B [s]=(gC B s).length:=by simp[fY]
 have PN:iJ B [s] (iZ (bR B O wh (ea B [s])) wh) nG=(mQ (gC B s).length nG,((gC B s).filter fun C=>p [C]).map fun C=>[C]):=by
  unfold iJ;rw[ai];split
  ·rename_i aw;rw[ma aw];rfl
  ·have av:(mQ (gC B s).length nG).dE=false:=by simp[mQ,nG];omega
   rw[hB,if_neg (by rw[av];decide)];rw[AY _ p (fun st aP h=>by rw[hB,if_neg (by rw[h];decide),hk];rfl) _ _ _ rfl av,List.nil_append]
 have av:(mQ (gC B s).length nG).dE=false:=by simp[mQ,nG];omega
 have Cu:∀st,iZ (bR B O .nil (ea B [s])) .nil st=(true,st):=fun st=>rfl;have h:=AZ _ _ f Cu hv ((gC B s).filter fun C=>p [C]) [] (mQ (gC B s).length nG) rfl av;have R:mR e .nil .nil (hL (ea B [s]) O .nil) (mQ (gC B s).length nG,((gC B s).filter fun C=>p [C]).map fun C=>[C])=(((gC B s).filter fun C=>p [C]).map fun C=>[[C]],mQ (gC B s).length nG):=by unfold mR wD;rw[ak];simp[isNone]
 rw[bR];simp only[List.nil_append];rw[PN,R];rw[List.nil_append] at h;exact h
def atP:JW AT.jr:=by
 have aw:JW ⟨[],[],0⟩:=⟨K,K,K,fun C ag=>absurd ag (ax4),fun C ag=>absurd ag (ax4)⟩;have h1:=aw.with (cU:=hS) (time:=0) (ts:=[(fL,1)]) K K K K K (fun t au=>by
  obtain rfl:=ic au;exact⟨K,K,K⟩)
 exact h1.with (cU:=hS) (time:=0) (ts:=[]) K K K K K (fun t au=>absurd au (ax4))
def awt(w:World)(v:Value)(l:List G2):Prop:=(∃a af,v=.slice a l.length af/\(l=[]\/∃g off,a=some ⟨g,off,none⟩/\g<w.heap.size/\∀i (h:i<l.length),dp w g (off+i*3)=some (q l[i].kind)/\dp w g (off+i*3+1)=some (q l[i].n)/\dp w g (off+i*3+2)=some (.string l[i].s)))/\l.length<=1048576/\∀x∈l,-9223372036854775808<=x.kind/\x.kind<=9223372036854775807/\-9223372036854775808<=x.n/\x.n<=9223372036854775807
def YC(w:World)(cN bL k:Nat)(W:World):Prop:=∃s bp vK,gQ w cN s bL bp W/\Good vK (13+k) s W/\Good vK (13+k) bp W/\DT s/\Cut s bp
def YC.below{w W aU:World}{cN bL k:Nat}(h:YC w cN bL k W)(A:eB W aU):YC w cN bL k aU:=by obtain⟨s,bp,vK,h1,H,ab,aK,cO⟩:=h;exact⟨s,bp,vK,h1.below A,H.aaX (ki.below A) ap (fun _ _=>rfl),ab.aaX (ki.below A) ap (fun _ _=>rfl),aK,cO⟩
def YC.ho{w W:World}{cN bL k:Nat}(h:YC w cN bL k W):eB w W:=by obtain⟨s,bp,vK,h1,_⟩:=h;exact h1.ho
def axu(cD:List (Int×Int))(n:Nat):DT (mB cD n)/\Cut (mB cD n) (mB cD n):=by
 have X:AT.jr.log=[(1,[iX 1,CN hS,iX 0]),(2,[iX 2,CN hS,iX 0])]:=by rfl
 have au:AT.jr.ng=[(1,[iX 1,CN fL,iX 1])]:=by rfl
 have av:DT (mB cD n):=by
  refine⟨atP,rfl,?_,?_,fun C ag=>?_,fun C ag=>?_⟩
  ·show vM AT.jr.log;rw[X];refine⟨?_,fun C ag=>?_⟩
   ·exact List.pairwise_cons.2 ⟨fun C ag=>by obtain rfl:=ic ag;exact⟨K,Int.le_refl _⟩,List.pairwise_singleton _ _⟩
   ·rcases List.mem_cons.1 ag with rfl | ag
    ·exact ap
    ·obtain rfl:=ic ag;decide
  ·show AT.jr.ng.Pairwise _;rw[au];exact List.pairwise_singleton _ _
  ·have tw:C∈AT.jr.log:=ag;rw[X] at tw;rcases List.mem_cons.1 tw with rfl | tw
   ·exact⟨Nat.le_of_ble_eq_true rfl,Int.le_refl _⟩
   ·obtain rfl:=ic tw;exact⟨Nat.le_of_ble_eq_true rfl,Int.le_refl _⟩
  ·have tw:C∈AT.jr.ng:=ag;rw[au] at tw;obtain rfl:=ic tw;exact Nat.le_of_ble_eq_true rfl
 refine⟨av,rfl,rfl,rfl,0,bu,?_,fun p aj=>by cases aj⟩;show AT.jr=_;show qh.mk AT.jr.log AT.jr.ng AT.jr.count=qh.mk (q0 ((0:Nat):Int) AT.jr.log) (q0 ((0:Nat):Int) AT.jr.ng) AT.jr.count;have Y:q0 ((0:Nat):Int) AT.jr.log=AT.jr.log:=by rw[X];rfl
 have am:q0 ((0:Nat):Int) AT.jr.ng=AT.jr.ng:=by rw[au];rfl
 rw[Y,am]
def axv{cD:List (Int×Int)}(ar:n<=12)(h:gQ w cN (mB cD n) bL (mB cD n) W):YC w cN bL 0 W:=by obtain⟨ok,fit⟩:=PG cD n ar;have g:Good (fun _=>.nil) (13+0) (mB cD n) W:=⟨ok.mono r,fit,⟨_,rfl⟩,atP,bu,(fun p aj=>by cases aj),bu,(fun p aj=>by cases aj)⟩;exact⟨_,_,_,h,g,g,axu cD n⟩
def axw(hk:k<60)(h:YC w cN bL k W)(a:G2)(bZ : -9223372036854775808<=a.kind)(dR:a.kind<=9223372036854775807)(dA : -9223372036854775808<=a.n)(er:a.n<=9223372036854775807):ey 5 #[M cN,.agg #[q a.kind,q a.n,.string a.s]] W fun e ih=>∃sy,e=.returned (.string sy)/\Hid (eB w ih/\ey 5 #[M bL,.agg #[q a.kind,q a.n,.string a.s]] ih fun e h5=>e=.returned (.string sy)/\Hid (YC w cN bL (k+1) h5)):=by
 obtain⟨s,bp,vK,h1,H,ab,aK,cO⟩:=h;refine(awq h1 H r a bZ dR dA er).mono ?_;rintro e ih ⟨sy,rfl,aa⟩;obtain⟨fu,bq,a2,a3,a4⟩:=aa.out;refine⟨sy,rfl,u ⟨a2.ho,?_⟩⟩;refine(awq a2.swap (ab.aaX (ajZ:=vK) a4 ap (fun _ _=>rfl)) r a bZ dR dA er).mono ?_;rintro e h5 ⟨akd,rfl,cn⟩;obtain⟨ajY,c1,c2,dZ,gp⟩:=cn.out;obtain⟨rfl,d1,d2⟩:=aw5 cO aK H.ok H.fit r H.rT bq c1;rw[cO.last] at dZ;exact⟨rfl,u ⟨fu,ajY,_,c2.swap,a3.aaX gp ap (fun _ _=>rfl),dZ,d1,d2⟩⟩
def axx(h:YC w cN bL k W):ey 6 #[M bL] W fun e aU=>(∃v,e=.returned v)/\Hid (YC w cN bL k aU):=by
 obtain⟨s,bp,vK,h1,H,ab,aK,cO⟩:=h;obtain⟨⟨F,G,Y,am,ol,bm,hq⟩,s8,wj⟩:=h1.swap;have f1:=ab.jr.vc;have f2:=ab.jr.log;have f3:=ab.jr.Py;have bM : -1000000000000<=bp.ck.dS:=by have:=ab.ok.zN;omega
 refine(awQ Y wj.uJ.js (by have:=ab.wA;omega) (fun C ag=>(ab.jr.cX C ag).1) r r (fun p aj=>(ab.YH p aj).2.2.2.2) bM ab.ok.ya).mono ?_;rintro e aU ⟨hv,bi⟩;obtain⟨aI,aZ⟩:=gQ.call Y.1 am bm hq ol s8 wj bi;exact⟨hv,u ⟨s,_,vK,aI.swap,H.aaX aZ ap (fun _ _=>rfl),ab.ap8.aaX aZ ap (fun _ _=>rfl),aK,cO.ap8 aK⟩⟩
def axy(h:YC w cN bL k W):∃eE akf:Nat,akf<=eE/\eE<=60/\∀aU,eB W aU->ey 7 #[M cN] aU (fun e h5=>e=.returned (q (eE:Int))/\Hid (eB W h5))/\ey 7 #[M bL] aU (fun e h5=>e=.returned (q (eE:Int))/\Hid (eB W h5))/\ey 8 #[M cN] aU (fun e h5=>e=.returned (q (eE:Int))/\Hid (eB W h5))/\ey 8 #[M bL] aU (fun e h5=>e=.returned (q (akf:Int))/\Hid (eB W h5)):=by
 obtain⟨s,bp,vK,h1,H,ab,aK,cO⟩:=h;have ai:=cO.count;refine⟨s.jr.count,bp.jr.log.length,by rw[<-ai];exact ab.jr.log,H.jr.vc,fun aU A=>?_⟩;obtain⟨⟨F,G,Y,am,_⟩,_,_⟩:=h1.below A;refine⟨(avl Y).mono (fun e h5 h=>⟨h.1,u (Below.fK A h.2)⟩),(avl am).mono (fun e h5 h=>⟨by rw[<-ai];exact h.1,u (Below.fK A h.2)⟩),(aq5 Y).mono (fun e h5 h=>⟨by rw[<-aK.full];exact h.1,u (Below.fK A h.2)⟩),(aq5 am).mono (fun e h5 h=>⟨h.1,u (Below.fK A h.2)⟩)⟩
def awv(w:World)(v:Value)(l:List Bool):Prop:=(∃a af,v=.slice a l.length af/\(l=[]\/∃g off,a=some ⟨g,off,none⟩/\g<w.heap.size/\∀i (h:i<l.length),dp w g (off+i)=some (.bool l[i])))/\l.length<=1048576
def axz(cD:List (Int×Int))(uN:Value)(Mb:List G2)(hI:Value)(comp:List Bool)(fl:Value)(w:World)(dh:Ground w)(hit:CY w uN cD)(Fk:awt w hI Mb)(DZ:awv w fl comp):ey 3 #[uN,hI,fl] w (gU w (.bool true)):=by
 have ahT:min cD.length 12<=12:=Nat.min_le_right _ _;have tV:Hid (ey 4 #[uN] w fun e J=>∃b,e=.returned (M b)/\Hid (gF w b (mB cD (min cD.length 12)) J)):=u ((YO cD uN w dh hit).mono (by
  rintro e J ⟨b,rfl,hk⟩;exact⟨b,rfl,u hk⟩))
 have JP:Hid (∀J cN,gF w cN (mB cD (min cD.length 12)) J->ey 4 #[uN] J fun e S=>∃b,e=.returned (M b)/\Hid (YC w cN b 0 S)):=u (fun J cN h1=>(YO cD uN J h1.xo (hit.below h1.ho)).mono (by
  rintro e S ⟨b,rfl,hk⟩;exact⟨b,rfl,u (axv ahT (gQ.of h1 hk))⟩))
 clear hit dh;generalize min cD.length 12=VM at *;obtain⟨⟨r0,ac,rfl,aww⟩,dI,pA⟩:=Fk;obtain⟨⟨gB,dz,rfl,awx⟩,pN⟩:=DZ;have aju:=u aww;have apJ:=u pA;have DW:=u awx;clear aww pA awx ahT;go_enter func3,ntmps3;go_upto_region 5 with(first
  | (go_at_call 4;refine(JP.out J cN H1.out).mono ?_;rintro e S ⟨bL,rfl,iH⟩)
  | (go_at_call 4;refine tV.out.mono ?_;rintro e J ⟨cN,rfl,H1⟩))
 clear tV JP H1;go_upto_region 6 with fail;go_loopg [9,10,11,12,13,14,15] 61 (fun U uN v10 v11 v12 axk axl av6 wr=>∃k:Nat,k<=Mb.length/\k<=60/\uN=q (k:Int)/\Hid (YC w cN bL k wr)/\60-k<U);case atStart=>exact⟨0,bu,bu,rfl,iH,r⟩
 case round=>
  obtain⟨k,bZ,dR,rfl,mK,ae⟩:=hrel;by_cases aD:k<Mb.length/\k<60
  ·obtain⟨apL,hE⟩:=aD;have awa:(k:Int)<(Mb.length:Int):=r;have uE:(k:Int)<60:=r;obtain⟨g,off,rfl,R,iV⟩:∃g off,r0=some ⟨g,off,none⟩/\g<w.heap.size/\∀i (h:i<Mb.length),dp w g (off+i*3)=some (q Mb[i].kind)/\dp w g (off+i*3+1)=some (q Mb[i].n)/\dp w g (off+i*3+2)=some (.string Mb[i].s):=by
    rcases aju.out with h | h
    ·rw[h] at apL;exact absurd apL (fp _)
    ·exact h
   obtain⟨h0,gR,lA,B6⟩:=apJ.out _ (ec apL);have XY:Hid (∀aU:World,eB w aU->dp aU g (off+k*3)=some (q Mb[k].kind)/\dp aU g (off+k*3+1)=some (q Mb[k].n)/\dp aU g (off+k*3+2)=some (.string Mb[k].s)):=u (fun aU A=>by
    obtain⟨c1,c2,dZ⟩:=iV k apL;exact⟨(A.cell (p:=⟨g,off+k*3,none⟩) R).trans c1,(A.cell (p:=⟨g,off+k*3+1,none⟩) R).trans c2,(A.cell (p:=⟨g,off+k*3+2,none⟩) R).trans dZ⟩)
   have eo:=u (axw hE mK.out Mb[k] h0 gR lA B6);generalize Mb[k]=aB at *;obtain⟨axT,axU,axV⟩:=aB;simp only[] at eo XY;have sU:IntKind.i64.wrap ((k:Int)+1)=(k:Int)+1:=mC;obtain⟨bz,cz,fP⟩:=XY.out wr mK.out.ho;clear iV R mK aju apJ h0 gR lA B6;have ch:=u ae;clear ae;go_upto_region 9 with(go_at_call 5;refine eo.out.mono ?_;rintro e aA ⟨amE,rfl,l2⟩);clear bz cz fP eo;obtain⟨b3,z2,z3⟩:=XY.out aA l2.out.1;go_upto_region 10 with(go_at_call 5;refine l2.out.2.mono ?_;rintro e bI ⟨rfl,l9⟩);clear b3 z2 z3 l2 XY;have wT:=u (axx l9.out);have y4:(comp.length=0)\/∃(pY aka:Nat) (dx:Bool),comp.length≠0/\gB=some ⟨pY,aka,none⟩/\dp bI pY (aka+k%comp.length)=some (.bool dx):=by
    by_cases aw:comp.length=0
    ·exact .inl aw
    ·right;rcases DW.out with cC | ⟨pY,aka,Y,am,bm⟩
     ·rw[cC] at aw;exact absurd rfl aw
     ·have wG:k%comp.length<comp.length:=Nat.mod_lt _ r;exact⟨pY,aka,comp[k%comp.length],aw,Y,(l9.out.ho.cell (p:=⟨pY,aka+k%comp.length,none⟩) am).trans (bm _ wG)⟩
   have axA:((k:Int).tmod (comp.length:Int))=((k%comp.length:Nat):Int):=by rw[Int.tmod_eq_emod_of_nonneg r];rfl
   rcases y4 with zJ | ⟨pY,aka,dx,zJ,rfl,ce⟩
   rotate_left;have aY:((comp.length:Int)==0)=false:=cV.2 r;have wG:k%comp.length<comp.length:=Nat.mod_lt _ r;generalize k%comp.length=awI at *;have axW:(awI:Int)<(comp.length:Int):=r;have axX:(0:Int)<=(awI:Int):=r;cases dx;go_upto_region 12 with fail;have rq:=l9;obtain⟨bh,rfl⟩:∃x,x=bI:=⟨_,rfl⟩;clear ce;rotate_left;go_upto_region 12 with(go_at_call 6;refine wT.out.mono ?_;rintro e bh ⟨⟨v,rfl⟩,rq⟩);clear ce;rotate_left;have aY:((comp.length:Int)==0)=true:=by rw[zJ];rfl
   have AD:Hid (Value.slice gB 0 dz=Value.slice gB comp.length dz):=u (by rw[zJ]);clear axA zJ;go_upto_region 12 with(go_at_call 6;refine wT.out.mono ?_;rintro e bh ⟨⟨v,rfl⟩,rq⟩);all_goals
    obtain⟨eE,akf,axB,axY,r4⟩:=axy rq.out;have qD:=u (r4 bh (Below.refl _ _)).1;have gJ:=u (fun aU h=>(r4 aU h).2.1);have BV:=u (fun aU h=>(r4 aU h).2.2.1);have OC:=u (fun aU h=>(r4 aU h).2.2.2);have xC:¬(eE:Int)<(akf:Int):=r;have axZ:(akf:Int)<=(eE:Int):=r;clear r4 wT l9 axB aY;go_wp2_with (first
     | (go_at_call 8;refine(OC.out zx arc.out).mono ?_;rintro e uZ ⟨rfl,aw1⟩)
     | (go_at_call 8;refine(BV.out mL axC.out).mono ?_;rintro e zx ⟨rfl,arc⟩)
     | (go_at_call 7;refine(gJ.out cw aq9.out).mono ?_;rintro e mL ⟨rfl,axC⟩)
     | (go_at_call 7;refine qD.out.mono ?_;rintro e cw ⟨rfl,aq9⟩))
    have ae:=ch.out;try rw[AD.out]
    go_roundg (gk-1);case measure=>omega
    case rel=>exact⟨k+1,r,r,by go_num,u (rq.out.below aw1.out),r⟩
  ·have nC:Hid (eB w wr):=u mK.out.ho;clear mK;rcases(by omega:¬k<Mb.length\/(k<Mb.length/\¬k<60)) with h | ⟨h,cC⟩
   ·have vq:¬(k:Int)<(Mb.length:Int):=r;have Y0:(Mb.length:Int)<=(k:Int):=r;clear aD h;go_wp2_with fail;go_ret;exact⟨rfl,nC.out⟩
   ·have vq:(k:Int)<(Mb.length:Int):=r;have Y0:¬(k:Int)<60:=r;have apy:(60:Int)<=(k:Int):=r;clear aD h cC;go_wp2_with fail;go_ret;exact⟨rfl,nC.out⟩
