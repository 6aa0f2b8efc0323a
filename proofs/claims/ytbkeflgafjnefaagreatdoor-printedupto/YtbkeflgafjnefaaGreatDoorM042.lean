import Derived.Test.YtbkeflgafjnefaaGreatDoorM040
import Derived.Test.YtbkeflgafjnefaaGreatDoorM041
set_option maxHeartbeats 20000000
set_option maxRecDepth 100000
set_option linter.all false
namespace Go.Proofs.YtbkeflgafjnefaaGreatDoor
open Tryz
open bS
variable{f:qh->n9->Bool}{s s1 s2:ni}{eH cU:ByteArray}{ts:List ByteArray}{t:aL}{W aU w:World}{N b cN bL i n:Nat}{F:Nat->Prop}{v:Value}
def fL:ByteArray:=⟨#[116]⟩
def hS:ByteArray:=⟨#[117]⟩
def F8:ByteArray:=⟨#[120,58,105,44,121,58,116]⟩
def CU:ByteArray:=⟨#[115,101,108,101,99,116,32,97,46,120,44,32,97,46,121,32,102,114,111,109,32,116,32,97]⟩
def CV:ByteArray:=⟨#[115,101,108,101,99,116,32,97,46,120,32,102,114,111,109,32,116,32,97]⟩
def mA:List (ByteArray×Nat):=[(⟨#[120]⟩,1),(⟨#[121]⟩,2)]
theorem PE:lL Eb fL F8=(0,⟨[⟨fL,mA,[],0⟩],0⟩):=ax
theorem Yb:mF ⟨[⟨fL,mA,[],0⟩],0⟩ fL [⟨#[55]⟩,⟨#[39,113,39]⟩]=(1,0,⟨[⟨fL,mA,[(1,[⟨1,7,[]⟩,⟨2,0,[113]⟩])],1⟩],0⟩):=ax
theorem Yc:pz ⟨[⟨fL,mA,[(1,[⟨1,7,[]⟩,⟨2,0,[113]⟩])],1⟩],0⟩ fL 1=(0,⟨[⟨fL,mA,[],1⟩],0⟩):=ax
def t1:aL:=((hC CU).getD ([],.nil)).2
def t2:aL:=((hC CV).getD ([],.nil)).2
theorem aoR:hC CU=some (((hC CU).getD ([],.nil)).1,t1):=ax
theorem aoS:hC CV=some (((hC CV).getD ([],.nil)).1,t2):=ax
def r9:List bG:=[⟨fL,mA,[(1,[⟨1,7,[]⟩,⟨2,0,[113]⟩])],1⟩]
def vI:List bG:=[⟨fL,mA,[],1⟩]
theorem aoT:hN (pq r9) CU=0:=ax
theorem aoU:hN (pq vI) CV=0:=ax
theorem aoV:(bR r9 0 t1 [] nG).2.1=[([⟨1,7,[]⟩,⟨2,0,[113]⟩],[[(1,[⟨1,7,[]⟩,⟨2,0,[113]⟩])]])]:=ax
theorem aoW:(bR r9 0 t1 [] nG).2.2.dE=false:=ax
theorem aoX:(bR vI 0 t2 [] nG).2.1=[]:=ax
theorem aoY:(bR vI 0 t2 [] nG).2.2.dE=false:=ax
theorem aoZ:iO (eM t1) [[(1,[⟨1,7,[]⟩,⟨2,0,[113]⟩])]] (eM t1).length=[(fL,1)]:=ax
theorem Yd{α:Type}(ew:α->α->Int)(a:α):kM ew [a]=[a]:=by unfold kM;exact List.mergeSort_singleton a
theorem Ye{α:Type}(ew:α->α->Int):kM ew ([]:List α)=[]:=by unfold kM;exact List.mergeSort_nil
theorem ao0(t:fo):p7 [t]=[t]:=rfl
theorem Yf(t:fo):hj [[t]]=[t]:=by unfold hj;rw[show([[t]]:List (List fo)).flatten=[t] from rfl,Yd,ao0]
def JH:List l7:=[([⟨#[55]⟩,⟨#[39,113,39]⟩],[(fL,1)])]
theorem ao1:oK r9 0 (eM t1) t1=some JH:=by unfold oK;rw[aoW,aoV,if_neg K,List.map_cons,List.map_nil];unfold lG;simp only[];rw[aoZ,Yf,Yd];kernel_rfl
theorem ao2:oK vI 0 (eM t2) t2=some []:=by unfold oK;rw[aoY,aoX,if_neg K,List.map_nil,Ye];rfl
def JI:ni:=⟨⟨r9,0⟩,⟨[],[],0⟩,[],0⟩
def JJ:ni:=⟨⟨vI,0⟩,nh hS 0 [(fL,1)] ⟨[],[],0⟩,[],0⟩
def AT:ni:=⟨⟨vI,0⟩,nh hS 0 [] (nh hS 0 [(fL,1)] ⟨[],[],0⟩),[],0⟩
theorem Yg{out:List l7}(h1:¬(cU.data.toList=[]\/jf cU.data.toList=false))(H:hN (pq s.ck.bY) eH=0)(ab:hC eH=some (ts,t))(aK:oK s.ck.bY s.ck.dS (eM t) t=some out)(cO:s.c7.count<60)(cE:s.nj=[]):gE f s cU eH=⟨0,0,out,{s with c7:=nh cU s.ck.dS (hj (out.map (·.2))) s.c7}⟩:=by unfold gE;rw[if_neg h1,if_neg (by rw[H];exact fun h=>h rfl),ab];simp only[];rw[aK];simp only[];rw[if_neg r,cE,if_neg (fun h=>h rfl)]
theorem ao3:hj []=[]:=by unfold hj;rw[show([]:List (List fo)).flatten=[] from rfl,Ye];rfl
theorem ao4(f:qh->n9->Bool):gE f JI hS CU=⟨0,0,JH,⟨⟨r9,0⟩,nh hS 0 [(fL,1)] ⟨[],[],0⟩,[],0⟩⟩:=by have h:=Yg (f:=f) (s:=JI) (cU:=hS) K aoT aoR ao1 K rfl;have hu:hj (JH.map (·.2))=[(fL,1)]:=Yf _;rw[hu] at h;exact h
theorem ao5(f:qh->n9->Bool):gE f JJ hS CV=⟨0,0,[],AT⟩:=by have h:=Yg (f:=f) (s:=JJ) (cU:=hS) K aoU aoS ao2 K rfl;rw[show(([]:List l7).map (·.2))=[] from rfl,ao3] at h;exact h
open Go.RowKit Go.Sort Go.Shelf
theorem PF{lo:Nat}{a:Option Addr}{c:Nat}{l:List ByteArray}(h:w.ownsRow lo 9 1 (.slice a n c) l.length (l.map Value.string))(i:Nat)(hi:i<l.length):∃g,a=some ⟨g,0,none⟩/\g<w.heap.size/\w.cell? ⟨g,i,none⟩=some (.string l[i]):=by obtain⟨nB,e7,e⟩:=cG h;injection e with Y am bm;subst Y am bm;obtain⟨g,e,R⟩:=vA h r;subst e;have bk:=h.cells rfl i (.string l[i]) (by rw[List.getElem?_map,fC hi];rfl);rw[Addr.add_lit,Nat.zero_add] at bk;exact⟨g,rfl,R,bk⟩
theorem F9{t:TypeId}(h:t=44\/t=9\/t=47\/t=33):¬oM t:=by unfold oM;rcases h with rfl | rfl | rfl | rfl<;>decide
structure ki (W aU:World):Prop where
 size:W.heap.size<=aU.heap.size
 other:∀(k:Nat) (cs:Array Value) (t:TypeId) (m:Nat×Nat),W.heap[k]?=some (.cells cs t m)->¬oM t->aU.heap[k]?=some (.cells cs t m)
theorem ki.of(h:da F W aU)(hF:∀k,F k->oN W k/\8<=k):ki W aU:=⟨h.size,fun k cs t m e ar=>by
 refine(h.block k (jq e) (fun hk=>?_)).trans e;obtain⟨⟨fU,e6,pQ,bo,Es⟩,_⟩:=hF k hk;rw[e] at bo;injection bo with bo;injection bo with _ bo;exact ar (bo▸Es)⟩
theorem ki.below(h:Below W.heap.size W aU):ki W aU:=⟨h.size,fun _ _ _ _ e _=>Below.a8 h e⟩
theorem ki.trans{a b c:World}(h:ki a b)(g:ki b c):ki a c:=⟨bX h.size g.size,fun k cs t m e ar=>g.other k cs t m (h.other k cs t m e ar) ar⟩
theorem ki.row(h:ki W aU){base:Nat}{e:TypeId}{size:Nat}{xs:List Value}(ar:¬oM e)(ag:W.ownsRow base e size v n xs):aU.ownsRow base e size v n xs:=by
 refine⟨ag.1,?_⟩;rcases ag.2 with aa | ⟨g,af,ay,rfl,X,en,rest⟩
 ·exact .inl aa
 ·exact .inr ⟨g,af,ay,rfl,X,h.other _ _ _ _ en ar,rest⟩
theorem ki.out{W aU:World}(h:ki W aU){v:Value}{out:List l7}(ct:fW 0 W v out):fW 0 aU v out:=by obtain⟨bE,h1,H,ab⟩:=ct;exact⟨bE,h.row (F9 (.inl rfl)) h1,H,fun i a b=>⟨h.row (F9 (.inr (.inl rfl))) (ab i a b).1,h.row (F9 (.inr (.inr (.inl rfl)))) (ab i a b).2⟩⟩
structure gF (w:World) (b:Nat) (s:ni) (W:World):Prop where
 own:∃F,nH F W b s/\∀k,F k->w.heap.size<=k
 ho:Below w.heap.size w W
 xo:Ground W
theorem gF.below{w W aU:World}{b:Nat}{s:ni}(h:gF w b s W)(A:Below W.heap.size W aU):gF w b s aU:=by obtain⟨⟨F,h1,H⟩,ab,aK⟩:=h;exact⟨⟨F,h1.aside (G:=fun _=>False) ⟨A.os,A.tape,A.output,A.size,fun k hk _=>A.block k hk⟩ (fun _ _=>id),H⟩,Below.fK ab A,aK.below A⟩
theorem gF.call{fu:ni}(aw:∀k,F k->oN W k/\8<=k)(hF:∀k,F k->w.heap.size<=k)(A:Below w.heap.size w W)(R:Ground W)(bi:vE F W b fu aU):gF w b fu aU/\ki W aU:=by
 obtain⟨F',aI,aZ,a6⟩:=bi;refine⟨⟨⟨F',aI,fun U ae=>?_⟩,⟨a6.os.trans A.os,a6.tape.trans A.tape,a6.output.trans A.output,bX A.size a6.size,fun U ae=>?_⟩,R.anx a6 (fun U ae=>(aw U ae).2)⟩,ki.of a6 aw⟩
 ·rcases aZ U ae with h | h
  ·exact hF U h
  ·exact bX A.size h
 ·exact(a6.block U (e0 ae A.size) (fun x=>by have:=hF U x;omega)).trans (A.block U ae)
theorem ao6(h:gF w b s W)(ok:hA N s.ck)(name bl:ByteArray)(ar:name.size<=2000000)(ai:bl.size<=2000000):Calls prog 38 #[M b,.string name,.string bl] W fun e aU=>e=.returned (q ((lL s.ck name bl).1:Int))/\Hid (gF w b {s with ck:=(lL s.ck name bl).2} aU/\ki W aU):=by obtain⟨⟨F,h1,H⟩,ab,aK⟩:=h;refine(ant h1 aK.uJ.js ok aK.uJ name bl ar ai).mono ?_;rintro e aU ⟨rfl,bi⟩;exact⟨rfl,u (gF.call h1.1 H ab aK bi)⟩
theorem Yh(h:gF w b s W)(ok:hA N s.ck)(cS:N<=1000000000)(name:ByteArray)(U af:Nat)(ba:List ByteArray)(hv:zG W U ba)(ae:U<W.heap.size)(X:ba.length<=2000000)(hs:∀t∈ba,t.size<=2000000):Calls prog 39 #[M b,.string name,.slice (some ⟨U,0,none⟩) ba.length af] W fun e aU=>e=.returned (.tuple #[q ((mF s.ck name ba).1:Int),q ((mF s.ck name ba).2.1:Int)])/\Hid (gF w b {s with ck:=(mF s.ck name ba).2.2} aU/\ki W aU):=by obtain⟨⟨F,h1,H⟩,ab,aK⟩:=h;refine(anu h1 aK.uJ.js ok cS name U af ba hv ae X hs).mono ?_;rintro e aU ⟨rfl,bi⟩;exact⟨rfl,u (gF.call h1.1 H ab aK bi)⟩
theorem ao7(h:gF w b s W)(ok:hA N s.ck)(name:ByteArray)(m:Int):Calls prog 40 #[M b,.string name,q m] W fun e aU=>e=.returned (q ((pz s.ck name m).1:Int))/\Hid (gF w b {s with ck:=(pz s.ck name m).2} aU/\ki W aU):=by obtain⟨⟨F,h1,H⟩,ab,aK⟩:=h;refine(anv h1 aK.uJ.js ok name m).mono ?_;rintro e aU ⟨rfl,bi⟩;exact⟨rfl,u (gF.call h1.1 H ab aK bi)⟩
theorem Yi(h:gF w b s W)(ok:hA N s.ck)(fit:lw s.ck)(cU eH:ByteArray)(hu:cU.size<=1000000)(oE:s.c7.log.length<=10000)(kv:s.c7.ng.length<=800000)(wq:s.c7.count<=1000000)(aj:s.nj=[]):Calls prog 18 #[M b,.string cU,.string eH] W fun e aU=>∃a n c,e=.returned (.tuple #[.agg #[.slice a n c,q ((gE (fun _ _=>false) s cU eH).Jt:Int)],q ((gE (fun _ _=>false) s cU eH).qk:Int)])/\Hid (fW 0 aU (.slice a n c) (gE (fun _ _=>false) s cU eH).out/\gF w b (gE (fun _ _=>false) s cU eH).FX aU/\ki W aU):=by
 obtain⟨⟨F,h1,H⟩,ab,aK⟩:=h;refine(XV (fun _ _=>false) h1 ok fit aK cU eH hu oE kv wq (by rw[aj];exact bu) (fun p AK=>by rw[aj] at AK;cases AK)).mono ?_;rintro e aU ⟨a,n,c,rfl,ct,bi⟩;exact⟨a,n,c,rfl,u ⟨ct,gF.call h1.1 H ab aK bi⟩⟩
theorem ao8(w:World)(R:Ground w):Calls prog 37 #[] w fun e W=>∃b,e=.returned (M b)/\Hid (gF w b Js W):=by refine(anw w R.uJ.js).mono ?_;rintro e W ⟨k,F,rfl,h1,H,ab⟩;exact⟨k,rfl,u ⟨⟨F,h1,H⟩,ab,R.below ab⟩⟩
def JK(k:Nat):ByteArray:=if 10<=k then JG else im ((k:Int)-3)
def JL(k:Nat):ByteArray:=if k=5 then JG else a7 (39::(([97,98,99,100,101]:List UInt8).take k++[39]))
theorem ao9:∀k,k<12->(fy (JK k).data.toList).2=true/\((fy (JK k).data.toList).1.kind=0\/(fy (JK k).data.toList).1.kind=1)/\(JK k).size<=30:=by decide +kernel
theorem apa:∀k,k<6->(fy (JL k).data.toList).2=true/\((fy (JL k).data.toList).1.kind=0\/(fy (JL k).data.toList).1.kind=2)/\(JL k).size<=30:=by decide +kernel
def CW(c:Int):al:=(fy (nk c).data.toList).1
def CX(c:Int):al:=(fy (nl c).data.toList).1
theorem Yj(c:Int):bS.valOf (nk c)=some (CW c)/\((CW c).kind=0\/(CW c).kind=1)/\(nk c).size<=30:=by have h:=ao9 (qZ c 12) (F7 K).2;refine⟨?_,h.2.1,h.2.2⟩;unfold bS.valOf;have h1:(fy (nk c).data.toList).2=true:=h.1;rw[h1,if_pos rfl];rfl
theorem Yk(c:Int):bS.valOf (nl c)=some (CX c)/\((CX c).kind=0\/(CX c).kind=2)/\(nl c).size<=30:=by have h:=apa (qZ c 6) (F7 K).2;refine⟨?_,h.2.1,h.2.2⟩;unfold bS.valOf;have h1:(fy (nl c).data.toList).2=true:=h.1;rw[h1,if_pos rfl];rfl
def AU(cD:List (Int×Int)):Nat->List (Nat×List al)
 | 0=>[]
 | k+1=>AU cD k++[(k+2,[CW (cD.getD k (0,0)).1,CX (cD.getD k (0,0)).2])]
theorem Yl(cD:List (Int×Int)):∀k,(AU cD k).length=k
 | 0=>rfl
 | k+1=>by rw[AU,cu,Yl cD k];rfl
def uM(cD:List (Int×Int))(k:Nat):hG:=⟨[⟨fL,mA,AU cD k,k+1⟩],0⟩
def mB(cD:List (Int×Int))(k:Nat):ni:=⟨uM cD k,AT.c7,[],0⟩
theorem Ym(cD:List (Int×Int))(k:Nat)(hk:k<12):mF (uM cD k) fL [nk (cD.getD k (0,0)).1,nl (cD.getD k (0,0)).2]=(k+2,0,uM cD (k+1)):=by
 have av:fD (uM cD k).bY fL=some 0:=by unfold uM fD;rfl
 have bi:od ⟨fL,mA,AU cD k,k+1⟩ [nk (cD.getD k (0,0)).1,nl (cD.getD k (0,0)).2]=(k+2,0,⟨fL,mA,AU cD (k+1),k+2⟩):=by
  obtain⟨bM,b9,_⟩:=Yj (cD.getD k (0,0)).1;obtain⟨J,S,_⟩:=Yk (cD.getD k (0,0)).2;unfold od;rw[if_pos (show [nk (cD.getD k (0,0)).1,nl (cD.getD k (0,0)).2].length=mA.length from rfl)];have ak:iq bS.valOf [nk (cD.getD k (0,0)).1,nl (cD.getD k (0,0)).2]=some [CW (cD.getD k (0,0)).1,CX (cD.getD k (0,0)).2]:=by rw[iq,bM,iq,J,iq];rfl
  rw[ak];have au:q7 [CW (cD.getD k (0,0)).1,CX (cD.getD k (0,0)).2] mA=true:=by unfold mA;rw[q7,q7,q7];rcases b9 with e | e<;>rcases S with bo | bo<;>rw[e,bo]<;>rfl
  simp only[];rw[au,if_pos rfl,if_neg (by rw[Yl];omega)];rfl
 rw[Ht av (by show 0<1;omega)];have R:(uM cD k).bY[0]'(by show 0<1;omega)=⟨fL,mA,AU cD k,k+1⟩:=rfl;rw[R,bi];rfl
theorem PG(cD:List (Int×Int)):∀k,k<=12->hA (k+1) (uM cD k)/\lw (uM cD k)
 | 0,_=>by
  refine⟨⟨by show 1<=6;omega,fun t au=>?_,by show(0:Int)<=0;omega,by show(0:Int)<=1000000000000;omega⟩,fun t au=>?_⟩
  ·obtain rfl:=ic (show t∈[_] from au);exact⟨by show 1<=2;omega,by show 2<=4;omega,bu,ap,fun c ai=>by
    have k4:c∈mA:=ai;unfold mA at k4;rcases List.mem_cons.1 k4 with rfl | k4
    ·exact .inl rfl
    ·obtain rfl:=ic k4;exact .inr rfl⟩
  ·obtain rfl:=ic (show t∈[_] from au);exact⟨fun C ag=>absurd ag (List.not_mem_nil),(show iP fL.data.toList=true by decide),fun C ag=>absurd ag (List.not_mem_nil)⟩
 | k+1,h=>by obtain⟨h1,H⟩:=PG cD k r;have e:=Ym cD k r;have ab:=h1.insert fL [nk (cD.getD k (0,0)).1,nl (cD.getD k (0,0)).2];have aK:=H.insert fL [nk (cD.getD k (0,0)).1,nl (cD.getD k (0,0)).2];rw[e] at ab aK;exact⟨ab,aK⟩
def CY(w:World)(v:Value)(l:List (Int×Int)):Prop:=(∃a af,v=.slice a l.length af/\(l=[]\/∃g off,a=some ⟨g,off,none⟩/\g<w.heap.size/\∀i (h:i<l.length),w.cell? ⟨g,off+i*2,none⟩=some (q l[i].1)/\w.cell? ⟨g,off+i*2+1,none⟩=some (q l[i].2)))/\l.length<=1048576/\∀x∈l,-9223372036854775808<=x.1/\x.1<=9223372036854775807/\-9223372036854775808<=x.2/\x.2<=9223372036854775807
def AV(t:fo):List UInt8:=t.1.data.toList++[32]++(im t.2).data.toList++[44]
def s0(v:ByteArray):List UInt8:=v.data.toList++[44]
def xp(C:l7):List UInt8:=[59]++C.1.flatMap s0++[60]++C.2.flatMap AV
def C0(e aq:Int)(out:List l7):List UInt8:=(im e).data.toList++[58]++(im aq).data.toList++out.flatMap xp
structure JN (out:List l7):Prop where
 vc:out.length<=100000
 ba:∀C∈out,C.1.length<=5000/\∀v∈C.1,v.size<=1000
 apx:∀C∈out,C.2.length<=100000/\∀t∈C.2,t.1.size<=1000/\-1000000000000000<=t.2/\t.2<=1000000000000000
theorem PH{α:Type}(f:α->List UInt8)(l:List α)(k:Nat)(h:k<l.length):(l.take (k+1)).flatMap f=(l.take k).flatMap f++f l[k]:=by rw[jD h,List.flatMap_append];simp
theorem vJ(a b:ByteArray):(a++b).data.toList=a.data.toList++b.data.toList:=by rw[ByteArray.data_append,Array.toList_append]
theorem vK(a b:ByteArray):(a++b).size=a.size+b.size:=by rw[ByteArray.size_append]
def lh(i:Nat):Nat:=100+i*200000000
theorem apy:lh 0=100:=by unfold lh;omega
theorem apz(i:Nat):lh (i+1)=lh i+200000000:=by unfold lh;omega
theorem apA(h:i<=100000):lh i<=100000000000000:=by unfold lh;omega
theorem apB(b0:Value)(aq e:Int)(out:List l7)(w:World)(h:fW 0 w b0 out)(sm:JN out)(o6 : -1000000000000000<=aq)(yx:aq<=1000000000000000)(nr : -1000000000000000<=e)(re:e<=1000000000000000):Calls prog 19 #[.agg #[b0,q aq],q e] w fun x w'=>x=.returned (.string (a7 (C0 e aq out)))/\Below w.heap.size w w':=by
 obtain⟨bE,ag,mn,CL⟩:=h;obtain⟨eL,rc,rfl⟩:=cG ag;have iD:Below w.heap.size w (w.alloc (.cells #[.slice eL bE.length rc,q aq] 33)):=cT;have aT:=bH w (.cells #[.slice eL bE.length rc,q aq] 33)
 have e9:Hid (∀i (hi:i<bE.length) (ct:i<out.length),∃lI mC g aC c6 bA bt aX bD,out[i]=(lI,mC)/\eL=some ⟨g,0,none⟩/\g<w.heap.size/\(∀W,Below w.heap.size w W->W.cell? ⟨g,i*2,none⟩=some (.slice aC c6 bA)/\W.cell? ⟨g,i*2+1,none⟩=some (.slice bt aX bD))/\c6=lI.length/\aX=mC.length/\(∀k (hk:k<lI.length),∃U,aC=some ⟨U,0,none⟩/\U<w.heap.size/\∀aU,Below w.heap.size w aU->aU.cell? ⟨U,k,none⟩=some (.string (lI[k])))/\(∀k (hk:k<mC.length),∃U,bt=some ⟨U,0,none⟩/\U<w.heap.size/\∀aU,Below w.heap.size w aU->aU.cell? ⟨U,k*2,none⟩=some (.string (mC[k]).1)/\aU.cell? ⟨U,k*2+1,none⟩=some (q (mC[k]).2))):=u (fun i hi ct=>by
  obtain⟨g,eX,R,bk,c1⟩:=Ps ag i hi;obtain⟨aI,aZ⟩:=CL i hi ct;obtain⟨aC,bA,Y⟩:=cG aI;obtain⟨bt,bD,am⟩:=cG aZ;rw[Y] at bk aI;rw[am] at c1 aZ;refine⟨out[i].1,out[i].2,g,aC,_,bA,bt,_,bD,rfl,eX,R,fun W A=>⟨(A.cell (p:=⟨g,i*2,none⟩) R).trans bk,(A.cell (p:=⟨g,i*2+1,none⟩) R).trans c1⟩,rfl,rfl,fun k hk=>?_,fun k hk=>?_⟩
  ·obtain⟨U,eq,ae,PI⟩:=PF aI k hk;exact⟨U,eq,ae,fun aU bg=>(bg.cell (p:=⟨U,k,none⟩) ae).trans PI⟩
  ·obtain⟨U,eq,ae,PI,apC⟩:=XI aZ k hk;exact⟨U,eq,ae,fun aU bg=>⟨(bg.cell (p:=⟨U,k*2,none⟩) ae).trans PI,(bg.cell (p:=⟨U,k*2+1,none⟩) ae).trans apC⟩⟩)
 have Ag:=u sm;have apD:=u mn;have anc:bE.length<=100000:=by have:=sm.vc;omega
 have ht:=u (fun W=>JF aq W r r);have bK:=u (fun W=>JF e W r r);have C1:Hid ((im aq).size<=30/\(im e).size<=30):=u ⟨Ik aq r r,Ik e r r⟩;have wN:Hid (a7 (C0 e aq out)=a7 ((im e).data.toList++[58]++(im aq).data.toList++(out.take bE.length).flatMap xp)):=u (by unfold C0;rw[mn,List.take_length]);generalize a7 (C0 e aq out)=gh at *;clear ag CL sm o6 yx nr re mn;go_enter func19,ntmps19;go_upto_region 1 with fail;generalize w.alloc (.cells #[.slice eL bE.length rc,q aq] 33)=hz at *;have my:=u iD;have rG:Hid (∀W,Below hz.heap.size hz W->W.cell? ⟨w.heap.size,0,none⟩=some (.slice eL bE.length rc)/\W.cell? ⟨w.heap.size,1,none⟩=some (q aq)):=u (fun W A=>by
  have k:=(A.block _ (br aT).1).trans aT;exact⟨Z k (i:=0) rfl,Z k (i:=1) rfl⟩)
 clear aT iD;have PJ:Hid ((im e++(⟨#[58]⟩:ByteArray)++im aq).data.toList=(im e).data.toList++[58]++(im aq).data.toList/\(im e++(⟨#[58]⟩:ByteArray)++im aq).size<=100):=u (by
  refine⟨by rw[vJ,vJ],?_⟩;have h1:=C1.out;have H:(⟨#[58]⟩:ByteArray).size=1:=rfl;rw[vK,vK];omega)
 obtain⟨apE,apF⟩:=C1.out;have q1:¬9223372036854775807<(im e).size+1:=r;have bN:¬9223372036854775807<(im e).size+1+(im aq).size:=r;have pc:Hid (Calls prog 21 #[q e] hz.drew fun x J=>x=.returned (.string (im e))/\(J.cell? ⟨w.heap.size,0,none⟩=some (.slice eL bE.length rc)/\J.cell? ⟨w.heap.size,1,none⟩=some (q aq))/\Hid (Below hz.heap.size hz J)):=u ((bK.out hz.drew).mono (by
  rintro x J ⟨rfl,A⟩;have bg:Below hz.heap.size hz J:=Below.fK (show Below hz.heap.size hz hz.drew from⟨rfl,rfl,rfl,ap,fun _ _=>rfl⟩) A;exact⟨rfl,rG.out J bg,u bg⟩))
 have ET:Hid (∀W,Below hz.heap.size hz W->Calls prog 21 #[q aq] W fun x S=>x=.returned (.string (im aq))/\(S.cell? ⟨w.heap.size,0,none⟩=some (.slice eL bE.length rc)/\S.cell? ⟨w.heap.size,1,none⟩=some (q aq))/\Hid (Below hz.heap.size hz S)):=u (fun W h=>(ht.out W).mono (by
  rintro x S ⟨rfl,A⟩;have bg:=Below.fK h A;exact⟨rfl,rG.out S bg,u bg⟩))
 obtain⟨dN,bz⟩:=rG.out hz (Below.refl _ _);generalize im e=Ga at *;generalize im aq=Gb at *;clear apE apF;go_region_held3 (fun w'=>w'.cell? ⟨w.heap.size,0,none⟩=some (.slice eL bE.length rc)/\w'.cell? ⟨w.heap.size,1,none⟩=some (q aq)) (go_keep) (first | (go_at_call 21;refine(ET.out J jd.out).mono ?_;rintro x S ⟨rfl,⟨hr,cN⟩,kh⟩) | (go_at_call 21;refine pc.out.mono ?_;rintro x J ⟨rfl,⟨a0,bq⟩,jd⟩));clear dN bz a0 bq q1 bN hr cN;have apG:Hid ((Ga++(⟨#[58]⟩:ByteArray)++Gb).data.toList=Ga.data.toList++[58]++Gb.data.toList):=u PJ.out.1;have apH:Hid ((Ga++(⟨#[58]⟩:ByteArray)++Gb).size<=100):=u PJ.out.2;generalize Ga++(⟨#[58]⟩:ByteArray)++Gb=k5 at *;generalize Ga.data.toList++[58]++Gb.data.toList=JO at *;have gS:Hid (Below w.heap.size w S):=u (Below.fK my.out kh.out)
 have Ys:Hid (∀W,Below S.heap.size S W->W.cell? ⟨w.heap.size,0,none⟩=some (.slice eL bE.length rc)):=u (fun W A=>(rG.out W (Below.fK kh.out A)).1);clear PJ ET pc rG ht bK C1;go_upto_region 3 with fail;go_loopg [5,6,7,8] (bE.length+1) (fun U sv uN hI bv wr=>∃(i:Nat) (s:ByteArray),i<=bE.length/\uN=q (i:Int)/\sv=.string s/\Hid (s.data.toList=JO++(out.take i).flatMap xp)/\Hid (s.size<=lh i)/\Hid (Below S.heap.size S wr)/\bE.length-i<U);case atStart=>exact⟨0,k5,bu,rfl,rfl,u (by rw[apG.out];simp),u (by have:=apH.out;rw[apy];exact this),u (Below.refl _ _),r⟩
 case round=>
  obtain⟨i,s,hi,rfl,rfl,dV,ep,bc,ae⟩:=hrel;by_cases aD:i<bE.length
  ·have cL:(i:Int)<(bE.length:Int):=r;have ct:i<out.length:=by have:=apD.out;omega
   have D0:lh i<=100000000000000:=apA r;have apI:Hid (lh (i+1)=lh i+200000000):=u (apz i);have hK:Below w.heap.size w wr:=Below.fK gS.out bc.out;obtain⟨lI,mC,g,aC,c6,bA,bt,aX,bD,JP,rfl,R,j2,Yt,FK,Yu,Yv⟩:=e9.out i aD ct;have oD:Hid (∀W,Below S.heap.size S W->W.cell? ⟨w.heap.size,0,none⟩=some (.slice (some ⟨g,0,none⟩) bE.length rc)/\W.cell? ⟨g,i*2,none⟩=some (.slice aC c6 bA)/\W.cell? ⟨g,i*2+1,none⟩=some (.slice bt aX bD)):=u (fun W A=>⟨Ys.out W A,j2 W (Below.fK gS.out A)⟩);obtain⟨JQ,Yw⟩:lI.length<=5000/\∀v∈lI,v.size<=1000:=by have:=Ag.out.ba _ (ec ct);rw[JP] at this;exact this
   obtain⟨AW,Yx⟩:mC.length<=100000/\∀t∈mC,t.1.size<=1000/\-1000000000000000<=t.2/\t.2<=1000000000000000:=by have:=Ag.out.apx _ (ec ct);rw[JP] at this;exact this
   have IY:Hid (∀W,Below S.heap.size S W->∀k (hk:k<c6) (gi:k<lI.length),∃U,aC=some ⟨U,0,none⟩/\W.cell? ⟨U,k,none⟩=some (.string (lI[k]))):=u (fun W A k hk gi=>by
    obtain⟨U,e,_,h⟩:=Yu k gi;exact⟨U,e,h W (Below.fK gS.out A)⟩)
   have Jv:Hid (∀k (gi:k<mC.length),∃U,bt=some ⟨U,0,none⟩/\∀W,Below S.heap.size S W->W.cell? ⟨U,k*2,none⟩=some (.string (mC[k]).1)/\W.cell? ⟨U,k*2+1,none⟩=some (q (mC[k]).2)):=u (fun k gi=>by
    obtain⟨U,e,_,h⟩:=Yv k gi;exact⟨U,e,fun W A=>h W (Below.fK gS.out A)⟩)
   have apJ:Hid ((out.take (i+1)).flatMap xp=(out.take i).flatMap xp++([59]++lI.flatMap s0++[60]++mC.flatMap AV)):=u (by have:=PH xp out i ct;rw[JP] at this;exact this);have aej:IntKind.i64.wrap ((i:Int)+1)=(i:Int)+1:=by rw[IntKind.wrap_i64];omega
   have fb:=u Yt;have dy:=u FK;have Yy:=u (And.intro JQ (And.intro Yw (And.intro AW Yx)));have Vo:c6<=5000:=r;have lX:aX<=100000:=r;clear Yt FK Yu Yv j2 JP JQ Yw AW Yx e9 R;have b3:¬9223372036854775807<s.size+1:=by have:=ep.out;omega
   have Yz:Hid ((s++(⟨#[59]⟩:ByteArray)).data.toList=JO++(out.take i).flatMap xp++[59]):=u (by rw[vJ,dV.out]);have Jo:Hid ((s++(⟨#[59]⟩:ByteArray)).size<=lh i+1):=u (by have:=ep.out;have e:(⟨#[59]⟩:ByteArray).size=1:=rfl;rw[vK,e];omega);obtain⟨bk,c1,c2⟩:=oD.out wr bc.out;have ch:=u ae;have vy:=u aD;clear ae dV ep aD ct hK;go_upto_block 2 with fail;generalize s++(⟨#[59]⟩:ByteArray)=ha at *;generalize YA:JO++(out.take i).flatMap xp++[59]=yM at *;have apK:=u YA;clear YA;clear bk c1 c2;obtain⟨FR,rfl⟩:∃x,x=gk:=⟨_,rfl⟩;obtain⟨ih,rfl⟩:∃x,x=wr:=⟨_,rfl⟩;go_cut [5,7] (fun sv gr wc=>∃s:ByteArray,sv=.string s/\Hid (s.data.toList=yM++lI.flatMap s0)/\Hid (s.size<=lh i+5005001)/\wc=ih);case first=>
    as_aux_lemma=>
     go_wp2_with fail;go_loopg [5,7] (c6+1) (fun U sv gr wk=>∃(k:Nat) (s:ByteArray),k<=c6/\gr=q (k:Int)/\sv=.string s/\Hid (s.data.toList=yM++(lI.take k).flatMap s0)/\Hid (s.size<=lh i+1+k*1001)/\wk=ih/\c6-k<U);case atStart=>exact⟨0,ha,bu,rfl,rfl,u (by rw[Yz.out];simp),u (by have:=Jo.out;omega),rfl,r⟩
     case round=>
      obtain⟨k,s,hk,rfl,rfl,dV,ep,rfl,ae⟩:=hrel;obtain⟨bk,c1,c2⟩:=oD.out _ bc.out;have Jm:=vy.out;have fM:(i:Int)<(bE.length:Int):=r;by_cases jl:k<c6
      ·have JR:(k:Int)<(c6:Int):=r;have JS:k<lI.length:=by have:=fb.out;omega
       obtain⟨U,rfl,fl⟩:=IY.out _ bc.out k jl JS;have Cx:=Yy.out.2.1 _ (ec JS);have mo:Hid ((lI.take (k+1)).flatMap s0=(lI.take k).flatMap s0++(lI[k].data.toList++[44])):=u (PH s0 lI k JS);have sU:IntKind.i64.wrap ((k:Int)+1)=(k:Int)+1:=by rw[IntKind.wrap_i64];omega
       generalize lI[k]=JT at *;have z2:¬9223372036854775807<s.size+JT.size:=by have:=ep.out;omega
       have z3:¬9223372036854775807<s.size+JT.size+1:=by have:=ep.out;omega
       have PK:Hid ((s++JT++(⟨#[44]⟩:ByteArray)).data.toList=yM++(lI.take (k+1)).flatMap s0):=u (by rw[mo.out,vJ,vJ,dV.out];simp);have eS:Hid ((s++JT++(⟨#[44]⟩:ByteArray)).size<=lh i+1+(k+1)*1001):=u (by have:=ep.out;have e:(⟨#[44]⟩:ByteArray).size=1:=rfl;rw[vK,vK,e];omega);have wY:=u ae;clear ae dV ep Cx JS;go_wp2_with fail;have ae:=wY.out;go_roundg (gk-1);case measure=>omega
       case rel=>exact⟨k+1,_,r,by go_num,rfl,PK,eS,rfl,r⟩
      ·have vq:k=c6:=r;subst vq;have JR:(k:Int)<=(k:Int):=r;have oG:Hid (s.data.toList=yM++lI.flatMap s0):=u (by rw[dV.out,fb.out,List.take_length]);have PL:Hid (s.size<=lh i+5005001):=u (by have:=ep.out;omega);clear dV ep ae;go_wp2_with fail;go_meet;case rel=>exact⟨s,rfl,oG,PL,rfl⟩
   case rest=>
    obtain⟨s2,rfl,dV,ep,uj⟩:=hcut;subst uj;clear Yz Jo IY b3;have oG:Hid ((s2++(⟨#[60]⟩:ByteArray)).data.toList=yM++lI.flatMap s0++[60]):=u (by rw[vJ,dV.out]);have PL:Hid ((s2++(⟨#[60]⟩:ByteArray)).size<=lh i+5005002):=u (by have:=ep.out;have e:(⟨#[60]⟩:ByteArray).size=1:=rfl;rw[vK,e];omega);have z4:¬9223372036854775807<s2.size+1:=by have:=ep.out;omega
    clear dV ep;go_upto_block 4 with fail;generalize s2++(⟨#[60]⟩:ByteArray)=jJ at *;go_wp2_with fail;go_loopg [5,8] (aX+1) (fun U sv gr wk=>∃(m:Nat) (s:ByteArray),m<=aX/\gr=q (m:Int)/\sv=.string s/\Hid (s.data.toList=yM++lI.flatMap s0++[60]++(mC.take m).flatMap AV)/\Hid (s.size<=lh i+5005002+m*1040)/\Hid (Below S.heap.size S wk)/\aX-m<U);case atStart=>exact⟨0,jJ,bu,rfl,rfl,u (by rw[oG.out];simp),u (by have:=PL.out;omega),bc,r⟩
    case round=>
     obtain⟨m,dd,hm,rfl,rfl,dV,ep,pB,ae⟩:=hrel;obtain⟨bk,c1,c2⟩:=oD.out _ pB.out;have Jm:=vy.out;have fM:(i:Int)<(bE.length:Int):=r;by_cases wG:m<aX
     ·have apL:(m:Int)<(aX:Int):=r;have JU:m<mC.length:=by have:=dy.out;omega
      obtain⟨U,rfl,vm⟩:=Jv.out m JU;obtain⟨YB,YC,YD⟩:=Yy.out.2.2.2 _ (ec JU);have mo:Hid ((mC.take (m+1)).flatMap AV=(mC.take m).flatMap AV++(mC[m].1.data.toList++[32]++(im mC[m].2).data.toList++[44])):=u (PH AV mC m JU);have atC:IntKind.i64.wrap ((m:Int)+1)=(m:Int)+1:=by rw[IntKind.wrap_i64];omega
      generalize mC[m]=T at *;obtain⟨kt,kV⟩:=T;simp only[] at vm YB YC YD mo;have ID:Hid (∀W,Below S.heap.size S W->(W.cell? ⟨w.heap.size,0,none⟩=some (.slice (some ⟨g,0,none⟩) bE.length rc)/\W.cell? ⟨g,i*2+1,none⟩=some (.slice (some ⟨U,0,none⟩) aX bD)/\W.cell? ⟨U,m*2,none⟩=some (.string kt)/\W.cell? ⟨U,m*2+1,none⟩=some (q kV))):=u (fun W A=>⟨(oD.out W A).1,(oD.out W A).2.2,vm W A⟩);have vS:Hid (Calls prog 21 #[q kV] wr.drew fun x bh=>x=.returned (.string (im kV))/\(bh.cell? ⟨w.heap.size,0,none⟩=some (.slice (some ⟨g,0,none⟩) bE.length rc)/\bh.cell? ⟨g,i*2+1,none⟩=some (.slice (some ⟨U,0,none⟩) aX bD)/\bh.cell? ⟨U,m*2,none⟩=some (.string kt)/\bh.cell? ⟨U,m*2+1,none⟩=some (q kV))/\Hid (Below S.heap.size S bh)):=u ((JF kV wr.drew r r).mono (by
       rintro x bh ⟨rfl,A⟩;have iR:Below S.heap.size S bh:=Below.fK (Below.fK pB.out (show Below wr.heap.size wr wr.drew from⟨rfl,rfl,rfl,ap,fun _ _=>rfl⟩)) A;exact⟨rfl,ID.out bh iR,u iR⟩))
      have BA:=Ik kV r r;generalize im kV=JV at *;have z5:¬9223372036854775807<dd.size+kt.size:=by have:=ep.out;omega
      have R9:¬9223372036854775807<dd.size+kt.size+1:=by have:=ep.out;omega
      have DJ:¬9223372036854775807<dd.size+kt.size+1+JV.size:=by have:=ep.out;omega
      have acY:¬9223372036854775807<dd.size+kt.size+1+JV.size+1:=by have:=ep.out;omega
      have PK:Hid ((dd++kt++(⟨#[32]⟩:ByteArray)++JV++(⟨#[44]⟩:ByteArray)).data.toList=yM++lI.flatMap s0++[60]++(mC.take (m+1)).flatMap AV):=u (by rw[mo.out,vJ,vJ,vJ,vJ,dV.out];simp);have eS:Hid ((dd++kt++(⟨#[32]⟩:ByteArray)++JV++(⟨#[44]⟩:ByteArray)).size<=lh i+5005002+(m+1)*1040):=u (by have:=ep.out;have e:(⟨#[44]⟩:ByteArray).size=1:=rfl;have am:(⟨#[32]⟩:ByteArray).size=1:=rfl;rw[vK,vK,vK,vK,e,am];omega);obtain⟨d0,d1,d2,d3⟩:=ID.out wr pB.out;have apM:=u ae;clear ae dV ep JU YB YC YD BA vm bk c1 c2;go_upto_region 14 with fail
      go_region_held3 (fun w'=>w'.cell? ⟨w.heap.size,0,none⟩=some (.slice (some ⟨g,0,none⟩) bE.length rc)/\w'.cell? ⟨g,i*2+1,none⟩=some (.slice (some ⟨U,0,none⟩) aX bD)/\w'.cell? ⟨U,m*2,none⟩=some (.string kt)/\w'.cell? ⟨U,m*2+1,none⟩=some (q kV)) (go_keep) (first | (go_at_call 21;refine vS.out.mono ?_;rintro x bh ⟨rfl,⟨f0,f1,f2,f3⟩,F4⟩));all_goals
       clear d0 d1 d2 d3 f0 f1 f2 f3;go_wp2_with fail;have ae:=apM.out;go_roundg (gk-1);case measure=>omega
       case rel=>exact⟨m+1,_,r,by go_num,rfl,PK,eS,F4,r⟩
     ·have apN:m=aX:=r;subst apN;have apL:(m:Int)<=(m:Int):=r;have x9:Hid (dd.data.toList=JO++(out.take (i+1)).flatMap xp):=u (by
       rw[dV.out,dy.out,List.take_length,apJ.out,<-apK.out];simp)
      have Xg:Hid (dd.size<=lh (i+1)):=u (by have:=ep.out;have:=apI.out;omega);have apO:=pB;clear dV ep ae pB;go_wp2_with fail;have ae:=ch.out;go_roundg (FR-1);case measure=>omega
      case rel=>exact⟨i+1,_,r,by go_num,rfl,x9,Xg,apO,r⟩
  ·have eZ:i=bE.length:=r;subst eZ;have cL:(bE.length:Int)<=(bE.length:Int):=r;have cK:Hid (gh=s):=u (by rw[wN.out,<-dV.out];rfl);have aT:=Ys.out wr bc.out;have apP:Hid (Below w.heap.size w wr):=u (Below.fK gS.out bc.out);clear ae dV ep bc;go_wp2_with fail;go_ret;exact⟨by rw[cK.out];rfl,apP.out⟩
theorem apQ{V:List (ByteArray×ByteArray)}{aG:ez}{t:fo}(h:t∈hP V aG i):(t.1=⟨#[]⟩\/∃s∈V,t.1=s.1)/\(t.2=0\/∃c∈aG,∃C∈c,t.2=(C.1:Int)):=by
 unfold hP at h;obtain⟨c,ai,rfl⟩:=List.mem_map.1 h;refine⟨?_,?_⟩
 ·by_cases hi:i<V.length
  ·refine .inr ⟨V[i],ec hi,?_⟩;show(V.getD i _).1=_;rw[List.getD_eq_getElem?_getD,fC hi];rfl
  ·left;show(V.getD i _).1=_;rw[List.getD_eq_getElem?_getD,List.getElem?_eq_none r];rfl
 ·by_cases hi:i<c.length
  ·refine .inr ⟨c,ai,c[i],ec hi,?_⟩;show(((c.getD i _).1:Nat):Int)=_;rw[List.getD_eq_getElem?_getD,fC hi];rfl
  ·left;show(((c.getD i _).1:Nat):Int)=_;rw[List.getD_eq_getElem?_getD,List.getElem?_eq_none r];rfl
theorem apR{g:hG}(ok:hA N g)(fit:lw g)(cS:N<=1000000000){td:List eb}(hrel:oJ td g.bY){out:List l7}(ae:hN td eH=0)(ag:hC eH=some (ts,t))(ak:oK g.bY g.dS (eM t) t=some out):JN out:=by
 obtain⟨ko,CS,_,⟨e,wh,il,hv,r7⟩,iu⟩:=PA ae ag;have bi:=fit.B ok;have bM : -1000000000000<=g.dS:=by have:=ok.zN;omega
 have PM:aJ (.query e (eM t) wh il hv) 2:=by rw[<-r7];exact ko
 have YE:mr (.query e (eM t) wh il hv):=by rw[<-r7];exact CS
 have y7:oK g.bY g.dS (eM t) (.query e (eM t) wh il hv)=some out:=by rw[<-r7];exact ak
 obtain⟨cN,bL,_⟩:=XG bi bM ok.ya PM YE iu y7;obtain⟨b1,_⟩:=Pm bi bM ok.ya PM YE [] (E:=[]) (st:=nG) (m:=0) (by trivial) ⟨bu,fun _=>bu⟩;have gA:=(Am (P:=fun C=>C.1<=1000000000) (B:=g.bY) (fun s C ag=>by
  rcases L4 g.bY s with⟨aw,_⟩ | ⟨iy,lX,aw,_⟩
  ·rw[aw] at ag;cases ag
  ·rw[aw] at ag;have:=(fit iy lX).num C ag;have:=(ok.B iy lX).last;omega) g.dS (.query e (eM t) wh il hv) [] nG ⟨fun C ag=>(by cases ag),fun c ai=>(by cases ai)⟩).1
 have apS:∀s∈eM t,s.1.size<=6:=by
  have ut:eh td [] t=true:=by
   unfold hN at ae;split at ae
   ·rename_i h;exact absurd ae h
   ·rw[ag] at ae;have zb:pj td t=0:=ae;unfold pj at zb;split at zb
    ·rename_i h;exact h
    ·cases zb
  rw[r7,eh,Bool.and_eq_true] at ut;cases aa:hd td [] (eM t) with
  | none=>rw[aa] at ut;exact absurd ut.2 (by simp)
  | some bU=>obtain⟨_,_,ab,_⟩:=Jc hrel (eM t) [] bU aa;intro s hs;obtain⟨i,hi⟩:=ab s hs;obtain⟨X,ar⟩:=W5 hi;have:=(fit _ (ec X)).name;rw[ar] at this;unfold iP at this;have cE:s.1.data.toList.length<=6:=of_decide_eq_true (Bool.and_eq_true_iff.1 this).2;rw[Array.length_toList] at cE;exact cE
 unfold oK at y7;split at y7
 ·cases y7
 obtain rfl:=bx y7;have key:∀C∈(kM pg ((bR g.bY g.dS (.query e (eM t) wh il hv) [] nG).2.1.map (lG (eM t)))).map nF,∃x∈(bR g.bY g.dS (.query e (eM t) wh il hv) [] nG).2.1,C=nF (lG (eM t) x):=fun C ag=>by obtain⟨a,ak,rfl⟩:=List.mem_map.1 ag;obtain⟨x,aa,rfl⟩:=List.mem_map.1 ((sS pg _).mem_iff.1 ak);exact⟨x,aa,rfl⟩
 refine⟨r,fun C ag=>?_,fun C ag=>?_⟩
 ·obtain⟨x,aa,rfl⟩:=key C ag;have kc:=b1 x aa;obtain⟨_,_,_,cO,_⟩:=id PM;refine⟨?_,fun v hv=>?_⟩
  ·show(x.1.map _).length<=5000;rw[cZ,kc.len];exact cO
  ·obtain⟨y,cn,rfl⟩:=List.mem_map.1 (show v∈x.1.map _ from hv);have:=OE (kc.ba y cn);show((iI y).toArray).size<=1000;simp only[List.size_toArray];omega
 ·obtain⟨x,aa,rfl⟩:=key C ag;have qK:=gA x aa;have kc:=b1 x aa;refine⟨?_,fun e6 vg=>?_⟩
  ·have h1:(lG (eM t) x).2.length<=(eM t).length*x.2.length:=by unfold lG;refine bX (Pv _) ?_;rw[List.flatten_cons,List.flatten_nil,List.append_nil,CG];exact ap
   have H:(eM t).length*x.2.length<=3*20000:=Nat.mul_le_mul iu kc.vc;show(lG (eM t) x).2.length<=100000;omega
  ·have hm:=(ans [iO (eM t) x.2 (eM t).length]).2.1 e6 vg;rw[List.flatten_cons,List.flatten_nil,List.append_nil] at hm;unfold iO at hm;obtain⟨i,_,hm⟩:=List.mem_flatMap.1 hm;obtain⟨m1,m2⟩:=apQ hm;refine⟨?_,?_⟩
   ·rcases m1 with m1 | ⟨s,hs,m1⟩
    ·rw[m1];show 0<=1000;omega
    ·rw[m1];have:=apS s hs;omega
   ·rcases m2 with m2 | ⟨c,ai,lK,tw,m2⟩
    ·rw[m2];exact⟨r,r⟩
    ·have:=qK c ai lK tw;rw[m2];simp only[] at this;exact⟨r,r⟩
theorem YL:hA 5 (⟨[⟨fL,mA,[],0⟩],0⟩:hG):=by have:=(hA.zero 5).create fL F8;rw[PE] at this;exact this
theorem Gc:hA 6 (⟨r9,0⟩:hG)/\lw (⟨r9,0⟩:hG):=by have h1:=YL.insert fL [⟨#[55]⟩,⟨#[39,113,39]⟩];have H:=(lw.zero.create fL F8).insert fL [⟨#[55]⟩,⟨#[39,113,39]⟩];rw[PE] at H;rw[Yb] at h1 H;exact⟨h1,H⟩
theorem YM:hA 6 (⟨vI,0⟩:hG)/\lw (⟨vI,0⟩:hG):=by have h1:=Gc.1.delete fL 1;have H:=Gc.2.delete fL 1;have e:pz (⟨r9,0⟩:hG) fL 1=(0,⟨vI,0⟩):=Yc;rw[e] at h1 H;exact⟨h1,H⟩
theorem YN{g:Nat}{x y:ByteArray}(h:w.heap[g]?=some (.cells #[.string x,.string y] 9 (0,0))):zG w g [x,y]:=fun i hi=>by
 have H:i=0\/i=1:=by simp at hi;omega
 rcases H with rfl | rfl
 ·exact Z h (i:=0) rfl
 ·exact Z h (i:=1) rfl
theorem YO(cD:List (Int×Int))(uN:Value)(w:World)(dh:Ground w)(hit:CY w uN cD):Calls prog 16 #[uN] w fun e w'=>∃b,e=.returned (M b)/\gF w b (mB cD (min cD.length 12)) w':=by
 obtain⟨⟨a,af,rfl,hit⟩,b7,k7⟩:=hit;have aqf:=u hit;have AB:=u k7;have YP:=u (ao8 w dh);have YQ:Hid (∀W b,gF w b Js W->Calls prog 38 #[M b,.string ⟨#[116]⟩,.string ⟨#[120,58,105,44,121,58,116]⟩] W fun e aU=>e=.returned (q 0)/\Hid (gF w b ⟨⟨[⟨fL,mA,[],0⟩],0⟩,⟨[],[],0⟩,[],0⟩ aU)):=u (fun W b h=>by
  have:=ao6 h (hA.zero 5) fL F8 K K;refine this.mono ?_;rintro e aU ⟨rfl,hk⟩;have gi:=hk.out.1;have ce:lL Js.ck fL F8=(0,⟨[⟨fL,mA,[],0⟩],0⟩):=PE;rw[ce] at gi ⊢;exact⟨rfl,u gi⟩)
 have YR:Hid (∀W b,gF w b ⟨⟨[⟨fL,mA,[],0⟩],0⟩,⟨[],[],0⟩,[],0⟩ W->Calls prog 39 #[M b,.string ⟨#[116]⟩,.slice (some ⟨W.heap.size,0,none⟩) 2 2] (W.alloc (.cells #[.string ⟨#[55]⟩,.string ⟨#[39,113,39]⟩] 9)) fun e aU=>e=.returned (.tuple #[q 1,q 0])/\Hid (gF w b JI aU)):=u (fun W b h=>by
  have dF:=(Below.refl W.heap.size W).alloc ap (.cells #[.string ⟨#[55]⟩,.string ⟨#[39,113,39]⟩] 9);have qy:=bH W (.cells #[.string ⟨#[55]⟩,.string ⟨#[39,113,39]⟩] 9);have:=Yh (h.below dF) YL K fL W.heap.size 2 [⟨#[55]⟩,⟨#[39,113,39]⟩] (YN qy) (jq qy) K K;refine this.mono ?_;rintro e aU ⟨rfl,hk⟩;have gi:=hk.out.1;have ce:mF ⟨[⟨fL,mA,[],0⟩],0⟩ fL [⟨#[55]⟩,⟨#[39,113,39]⟩]=(1,0,⟨r9,0⟩):=Yb;rw[ce] at gi ⊢;exact⟨rfl,u gi⟩)
 have C3:Hid (∀W b,gF w b JI W->Calls prog 18 #[M b,.string ⟨#[117]⟩,.string ⟨#[115,101,108,101,99,116,32,97,46,120,44,32,97,46,121,32,102,114,111,109,32,116,32,97]⟩] W fun e aU=>∃dc de,e=.returned (.tuple #[.agg #[.slice dc 1 de,q 0],q 0])/\Hid (fW 0 aU (.slice dc 1 de) JH/\gF w b ⟨⟨r9,0⟩,nh hS 0 [(fL,1)] ⟨[],[],0⟩,[],0⟩ aU)):=u (fun W b h=>by
  refine(Yi h Gc.1 Gc.2 hS CU K K K K rfl).mono ?_;rintro e aU ⟨dc,on,de,rfl,hk⟩;obtain⟨ct,bZ,_⟩:=hk.out;rw[ao4] at ct bZ ⊢;have PR:on=1:=by obtain⟨bE,C,am,_⟩:=id ct;obtain⟨nB,e7,Y⟩:=cG C;injection Y with _ Y _;rw[Y,am];rfl
  subst PR;exact⟨dc,de,rfl,u ⟨ct,bZ⟩⟩)
 have C1:Hid (∀W b,gF w b ⟨⟨r9,0⟩,nh hS 0 [(fL,1)] ⟨[],[],0⟩,[],0⟩ W->Calls prog 40 #[M b,.string ⟨#[116]⟩,q 1] W fun e aU=>e=.returned (q 0)/\Hid (gF w b JJ aU/\ki W aU)):=u (fun W b h=>by
  refine(ao7 h Gc.1 fL 1).mono ?_;rintro e aU ⟨rfl,hk⟩;have gi:=hk.out;have ce:pz (⟨r9,0⟩:hG) fL 1=(0,⟨vI,0⟩):=Yc;rw[ce] at gi ⊢;exact⟨rfl,u gi⟩)
 have vD:Hid (∀W b,gF w b JJ W->Calls prog 18 #[M b,.string ⟨#[117]⟩,.string ⟨#[115,101,108,101,99,116,32,97,46,120,32,102,114,111,109,32,116,32,97]⟩] W fun e aU=>∃dc de,e=.returned (.tuple #[.agg #[.slice dc 0 de,q 0],q 0])/\Hid (gF w b AT aU/\ki W aU)):=u (fun W b h=>by
  refine(Yi h YM.1 YM.2 hS CV K K K K rfl).mono ?_;rintro e aU ⟨dc,on,de,rfl,hk⟩;obtain⟨ct,bZ⟩:=hk.out;rw[ao5] at ct bZ ⊢;have PR:on=0:=by obtain⟨bE,C,am,_⟩:=id ct;obtain⟨nB,e7,Y⟩:=cG C;injection Y with _ Y _;rw[Y,am];rfl
  subst PR;exact⟨dc,de,rfl,u bZ⟩)
 clear dh hit k7;go_enter func16,ntmps16;go_upto_region 7 with(first
  | (go_at_call 18;refine(C3.out aA b l2.out).mono ?_;rintro e bI ⟨dc,de,rfl,l9⟩)
  | (go_at_call 39;refine(YR.out S b iH.out).mono ?_;rintro e aA ⟨rfl,l2⟩)
  | (go_at_call 38;refine(YQ.out J b H1.out).mono ?_;rintro e S ⟨rfl,iH⟩)
  | (go_at_call 37;refine YP.out.mono ?_;rintro e J ⟨b,rfl,H1⟩))
 go_upto_region 9 with(first
  | (go_at_call 18;refine(vD.out bh b rq.out.1).mono ?_;rintro e cw ⟨rl,vL,rfl,p6⟩)
  | (go_at_call 40;refine(C1.out _ b (l9.out.2.below cT)).mono ?_;rintro e bh ⟨rfl,rq⟩))
 have PS:Hid (gF w b AT (cw.alloc (.cells #[.slice rl 0 vL,q 0] 33))):=u (p6.out.1.below cT);obtain⟨g,aC,bA,ib,rfl,rfl,d0,d1,d2,d3,d4⟩:∃g aC bA ib,dc=some ⟨g,0,none⟩/\aC=some ⟨ib,0,none⟩/\(cw.alloc (.cells #[.slice rl 0 vL,q 0] 33)).cell? ⟨bI.heap.size,0,none⟩=some (.slice dc 1 de)/\(cw.alloc (.cells #[.slice rl 0 vL,q 0] 33)).cell? ⟨g,0,none⟩=some (.slice aC 2 bA)/\(cw.alloc (.cells #[.slice rl 0 vL,q 0] 33)).cell? ⟨ib,0,none⟩=some (.string ⟨#[55]⟩)/\(cw.alloc (.cells #[.slice rl 0 vL,q 0] 33)).cell? ⟨ib,1,none⟩=some (.string ⟨#[39,113,39]⟩)/\(cw.alloc (.cells #[.slice rl 0 vL,q 0] 33)).cell? ⟨cw.heap.size,0,none⟩=some (.slice rl 0 vL):=by
  have av:ki (bI.alloc (.cells #[.slice dc 1 de,q 0] 33)) (cw.alloc (.cells #[.slice rl 0 vL,q 0] 33)):=(rq.out.2.trans p6.out.2).trans (ki.below cT);have fA:=av.other _ _ _ _ (bH bI _) (F9 (.inr (.inr (.inr rfl))));have ct:=av.out (l9.out.1.below ((Below.refl _ _).alloc ap (.cells #[.slice dc 1 de,q 0] 33)));obtain⟨bE,C,am,k⟩:=ct;have kz:bE.length=1:=am;have lK:(cw.alloc (.cells #[.slice rl 0 vL,q 0] 33)).ownsRow 0 44 2 (.slice dc bE.length de) bE.length (bE.flatMap CH):=by rw[kz] at C ⊢;exact C
  obtain⟨g,eX,R,bk,c1⟩:=Ps lK 0 r;obtain⟨aI,_⟩:=k 0 r (by show 0<1;omega);obtain⟨aC,bA,Y⟩:=cG aI;rw[Y] at bk aI;obtain⟨ib,ev,_,nc⟩:=PF (l:=[⟨#[55]⟩,⟨#[39,113,39]⟩]) aI 0 (by show 0<2;omega);obtain⟨atD,C4,_,s1⟩:=PF (l:=[⟨#[55]⟩,⟨#[39,113,39]⟩]) aI 1 (by show 1<2;omega);rw[ev] at C4;injection C4 with C4;injection C4 with C4;subst C4;exact⟨g,aC,bA,ib,eX,ev,Z fA (i:=0) rfl,bk,nc,s1,Z (bH cw _) (i:=0) rfl⟩
 generalize cw.alloc (.cells #[.slice rl 0 vL,q 0] 33)=YS at *;clear YP YQ YR C3 C1 vD H1 iH l2 l9 rq p6;go_upto_region 12 with fail;clear d0 d1 d2 d3 d4;have H4:Hid (gF w b (mB cD 0) YS):=u PS.out;have kO:Hid (Below w.heap.size w YS):=u PS.out.ho;clear PS;go_loopg [5,6,12] 13 (fun U Ya kr gr wr=>∃k:Nat,gr=q (k:Int)/\k<=cD.length/\k<=12/\Hid (gF w b (mB cD k) wr)/\12-k<U);case atStart=>exact⟨0,rfl,bu,bu,H4,r⟩
 case round=>
  obtain⟨k,rfl,bZ,dR,e1,ae⟩:=hrel;by_cases jl:k<cD.length
  ·by_cases I4:k<12
   ·have JR:(k:Int)<(cD.length:Int):=r;have atE:(k:Int)<12:=r;obtain⟨g2,off,rfl,bC,iV⟩:∃g off,a=some ⟨g,off,none⟩/\g<w.heap.size/\∀i (h:i<cD.length),w.cell? ⟨g,off+i*2,none⟩=some (q cD[i].1)/\w.cell? ⟨g,off+i*2+1,none⟩=some (q cD[i].2):=by
     rcases aqf.out with h | h
     ·rw[h] at jl;exact absurd jl (fp _)
     ·exact h
    obtain⟨bz,cz,fP,mq⟩:=AB.out _ (ec jl);have ko:cD.getD k (0,0)=cD[k]:=by rw[List.getD_eq_getElem?_getD,fC jl];rfl
    have PT:Hid (mF (uM cD k) fL [nk cD[k].1,nl cD[k].2]=(k+2,0,uM cD (k+1))):=u (by have:=Ym cD k I4;rw[ko] at this;exact this);have uu:Hid (∀W,Below w.heap.size w W->W.cell? ⟨g2,off+k*2,none⟩=some (q cD[k].1)/\W.cell? ⟨g2,off+k*2+1,none⟩=some (q cD[k].2)):=u (fun W A=>⟨(A.cell (p:=⟨g2,off+k*2,none⟩) bC).trans (iV k jl).1,(A.cell (p:=⟨g2,off+k*2+1,none⟩) bC).trans (iV k jl).2⟩);have q9:IntKind.i64.wrap ((k:Int)+2)=(k:Int)+2:=by rw[IntKind.wrap_i64];omega
    have q8:IntKind.i64.wrap ((k:Int)+1)=(k:Int)+1:=by rw[IntKind.wrap_i64];omega
    clear iV ko;generalize cD[k]=aqg at *;obtain⟨q2,q3⟩:=aqg;simp only[] at bz cz fP mq PT uu;have vz:Below wr.heap.size wr wr.drew:=⟨rfl,rfl,rfl,ap,fun _ _=>rfl⟩;have aqh:Hid (Calls prog 23 #[q q2] wr.drew fun e J=>e=.returned (.string (nk q2))/\(J.cell? ⟨g2,off+k*2,none⟩=some (q q2)/\J.cell? ⟨g2,off+k*2+1,none⟩=some (q q3))/\Hid (gF w b (mB cD k) J)):=u ((aoP q2 wr.drew bz cz).mono (by
     rintro e J ⟨rfl,A⟩;have h1:=(e1.out.below vz).below A;exact⟨rfl,uu.out J h1.ho,u h1⟩))
    have aqi:Hid (∀W,gF w b (mB cD k) W->Calls prog 41 #[q q3] W fun e S=>e=.returned (.string (nl q3))/\(S.cell? ⟨g2,off+k*2,none⟩=some (q q2)/\S.cell? ⟨g2,off+k*2+1,none⟩=some (q q3))/\Hid (gF w b (mB cD k) S)):=u (fun W h=>(aoQ q3 W fP mq).mono (by
     rintro e S ⟨rfl,A⟩;have h1:=h.below A;exact⟨rfl,uu.out S h1.ho,u h1⟩))
    have aqj:Hid (∀W,gF w b (mB cD k) W->Calls prog 39 #[M b,.string ⟨#[116]⟩,.slice (some ⟨W.heap.size,0,none⟩) 2 2] (W.alloc (.cells #[.string (nk q2),.string (nl q3)] 9)) fun e aA=>e=.returned (.tuple #[q ((k:Int)+2),q 0])/\(aA.cell? ⟨g2,off+k*2,none⟩=some (q q2)/\aA.cell? ⟨g2,off+k*2+1,none⟩=some (q q3))/\Hid (gF w b (mB cD (k+1)) aA)):=u (fun W h=>by
     have dF:=(Below.refl W.heap.size W).alloc ap (.cells #[.string (nk q2),.string (nl q3)] 9);have qy:=bH W (.cells #[.string (nk q2),.string (nl q3)] 9);have:=Yh (h.below dF) (PG cD k dR).1 r fL W.heap.size 2 [nk q2,nl q3] (YN qy) (jq qy) (by show 2<=2000000;omega) (fun t au=>by
      have q1:=(Yj q2).2.2;have bN:=(Yk q3).2.2;rcases List.mem_cons.1 au with rfl | au
      ·omega
      ·obtain rfl:=ic au;omega)
     refine this.mono ?_;rintro e aA ⟨rfl,hk⟩;have gi:=hk.out.1;have ce:mF (mB cD k).ck fL [nk q2,nl q3]=(k+2,0,uM cD (k+1)):=PT.out;rw[ce] at gi ⊢;have YT:gF w b (mB cD (k+1)) aA:=gi;exact⟨rfl,uu.out aA YT.ho,u YT⟩)
    obtain⟨nc,s1⟩:=uu.out wr e1.out.ho;generalize nk q2=atF at *;generalize nl q3=atG at *;have ch:=u ae;clear ae bz cz fP mq PT vz bC uu;go_upto_region 14 with fail;go_region_held3 (fun w'=>w'.cell? ⟨g2,off+k*2,none⟩=some (q q2)/\w'.cell? ⟨g2,off+k*2+1,none⟩=some (q q3)) (go_keep) (first
     | (go_at_call 39;refine(aqj.out S kh.out).mono ?_;rintro e aA ⟨rfl,⟨bk,c1⟩,oO⟩)
     | (go_at_call 41;refine(aqi.out J jd.out).mono ?_;rintro e S ⟨rfl,⟨hr,cN⟩,kh⟩)
     | (go_at_call 23;refine aqh.out.mono ?_;rintro e J ⟨rfl,⟨a0,bq⟩,jd⟩))
    all_goals
     clear nc s1 a0 bq hr cN bk c1;go_wp2_with fail;have ae:=ch.out;go_roundg (gk-1);case measure=>omega
     case rel=>exact⟨k+1,by go_num,r,r,oO,r⟩
   ·have vq:k=12:=r;subst vq;have JR:((12:Nat):Int)<(cD.length:Int):=r;have bK:Hid (min cD.length 12=12):=u r;clear ae;go_wp2_with fail;go_ret;exact⟨b,rfl,by rw[bK.out];exact e1.out⟩
  ·have vq:k=cD.length:=r;have JR:(cD.length:Int)<=(k:Int):=r;have bK:Hid (min cD.length 12=k):=u r;clear ae vq;go_wp2_with fail;go_ret;exact⟨b,rfl,by rw[bK.out];exact e1.out⟩
theorem aqk(bd:List bG):oJ (pq bd) bd:=by unfold oJ pq;rw[List.map_map];rfl
theorem Gd:JN []:=⟨bu,fun C ag=>absurd ag (List.not_mem_nil),fun C ag=>absurd ag (List.not_mem_nil)⟩
theorem aql(s:ByteArray)(fe:List Nat):kq s fe<=2:=by
 unfold kq;split
 ·decide
 ·split
  ·split<;>decide
  ·decide
theorem aqm(td:List eb)(s:ByteArray):hN td s<=5:=by
 unfold hN;split
 ·exact bX (aql s [0]) K
 ·split
  ·decide
  ·unfold pj;split
   ·split
    ·decide
    ·split<;>decide
   ·decide
theorem YU(ok:hA N s.ck)(fit:lw s.ck)(cS:N<=1000000000)(aj:s.nj=[])(f:qh->n9->Bool)(cU eH:ByteArray):(gE f s cU eH).qk<=10/\(gE f s cU eH).Jt=0/\JN (gE f s cU eH).out:=by
 unfold gE;split
 ·exact⟨Nat.le_of_ble_eq_true rfl,rfl,Gd⟩
 ·split
  ·exact⟨bX (aqm _ _) K,rfl,Gd⟩
  ·rename_i ae;cases ag:hC eH with
   | none=>exact⟨Nat.le_of_ble_eq_true rfl,rfl,Gd⟩
   | some x=>
    simp only[];cases ak:oK s.ck.bY s.ck.dS (eM x.2) x.2 with
    | none=>exact⟨Nat.le_of_ble_eq_true rfl,rfl,Gd⟩
    | some out=>
     simp only[];split
     ·exact⟨Nat.le_of_ble_eq_true rfl,rfl,Gd⟩
     ·rw[aj,if_neg (fun h=>h rfl)];exact⟨Nat.le_of_ble_eq_true rfl,rfl,apR ok fit cS (aqk _) (by simpa using ae) (ts:=x.1) (t:=x.2) ag ak⟩
theorem aqn(hu:¬(cU.data.toList=[]\/jf cU.data.toList=false))(h:jr eH≠0):(gE f s cU eH).out=[]/\((gE f s cU eH).qk=jr eH\/(gE f s cU eH).qk=1):=by obtain⟨h1,H⟩:=aqa (td:=pq s.ck.bY) h;unfold gE;rw[if_neg hu,if_pos h1];exact⟨rfl,H⟩
theorem aqo{t:ByteArray}(h:hC t=hC eH):gE f s cU t=gE f s cU eH:=by unfold gE;rw[aqe h,h]
structure gQ (w:World) (cN:Nat) (s1:ni) (bL:Nat) (s2:ni) (W:World):Prop where
 own:∃vM uP,nH vM W cN s1/\nH uP W bL s2/\(∀k,vM k->¬uP k)/\(∀k,vM k->w.heap.size<=k)/\∀k,uP k->w.heap.size<=k
 ho:Below w.heap.size w W
 xo:Ground W
theorem gQ.of{J S:World}(h1:gF w cN s1 J)(H:gF J bL s2 S):gQ w cN s1 bL s2 S:=by obtain⟨⟨vM,bq,a2⟩,a3,a4⟩:=h1;obtain⟨⟨uP,c1,c2⟩,dZ,gp⟩:=H;refine⟨⟨vM,uP,bq.aside (G:=fun _=>False) ⟨dZ.os,dZ.tape,dZ.output,dZ.size,fun k hk _=>dZ.block k hk⟩ (fun _ _=>id),c1,fun k x y=>?_,a2,fun k hk=>bX a3.size (c2 k hk)⟩,Below.fK a3 dZ,gp⟩;have:=bq.fH k x;have:=c2 k y;omega
theorem gQ.swap(h:gQ w cN s1 bL s2 W):gQ w bL s2 cN s1 W:=by obtain⟨⟨vM,uP,bq,a2,a3,a4,a5⟩,kG,jv⟩:=h;exact⟨⟨uP,vM,a2,bq,fun k x y=>a3 k y x,a5,a4⟩,kG,jv⟩
theorem gQ.below{w W aU:World}{cN bL:Nat}{s1 s2:ni}(h:gQ w cN s1 bL s2 W)(A:Below W.heap.size W aU):gQ w cN s1 bL s2 aU:=by obtain⟨⟨vM,uP,bq,a2,a3,a4,a5⟩,kG,jv⟩:=h;have st:da (fun _=>False) W aU:=⟨A.os,A.tape,A.output,A.size,fun k hk _=>A.block k hk⟩;exact⟨⟨vM,uP,bq.aside st (fun _ _=>id),a2.aside st (fun _ _=>id),a3,a4,a5⟩,Below.fK kG A,jv.below A⟩
theorem aqp(h:gQ w b s bL s2 W)(ok:hA N s.ck)(fit:lw s.ck)(cU eH:ByteArray)(hu:cU.size<=1000000)(oE:s.c7.log.length<=10000)(kv:s.c7.ng.length<=800000)(wq:s.c7.count<=1000000)(aj:s.nj=[]):Calls prog 18 #[M b,.string cU,.string eH] W fun e aU=>∃a n c,e=.returned (.tuple #[.agg #[.slice a n c,q ((gE (fun _ _=>false) s cU eH).Jt:Int)],q ((gE (fun _ _=>false) s cU eH).qk:Int)])/\Hid (fW 0 aU (.slice a n c) (gE (fun _ _=>false) s cU eH).out/\gQ w b (gE (fun _ _=>false) s cU eH).FX bL s2 aU/\ki W aU):=by
 obtain⟨⟨vM,uP,h1,a2,a3,a4,a5⟩,kG,jv⟩:=h;refine(XV (fun _ _=>false) h1 ok fit jv cU eH hu oE kv wq (by rw[aj];exact bu) (fun p AK=>by rw[aj] at AK;cases AK)).mono ?_;rintro e aU ⟨a,n,c,rfl,ct,bi⟩;obtain⟨⟨_,Gy,GB⟩,aqq⟩:=gF.call h1.1 a4 kG jv bi;obtain⟨F',aI,aZ,a6⟩:=bi;refine⟨a,n,c,rfl,u ⟨ct,⟨⟨F',uP,aI,a2.aside a6 (fun k x y=>a3 k y x),fun k x y=>?_,fun k x=>?_,a5⟩,Gy,GB⟩,aqq⟩⟩
 ·rcases aZ k x with h | h
  ·exact a3 k h y
  ·have:=a2.fH k y;omega
 ·rcases aZ k x with h | h
  ·exact a4 k h
  ·exact bX kG.size h
theorem CY.below{w':World}{l:List (Int×Int)}(h:CY w v l)(A:Below w.heap.size w w'):CY w' v l:=by
 obtain⟨⟨a,af,e,h1⟩,H,ab⟩:=h;refine⟨⟨a,af,e,?_⟩,H,ab⟩;rcases h1 with h1 | ⟨g,off,Y,R,ai⟩
 ·exact .inl h1
 ·exact .inr ⟨g,off,Y,e0 R A.size,fun i hi=>⟨(A.cell (p:=⟨g,off+i*2,none⟩) R).trans (ai i hi).1,(A.cell (p:=⟨g,off+i*2+1,none⟩) R).trans (ai i hi).2⟩⟩
theorem aqr:AT.c7.log.length<=10000/\AT.c7.ng.length<=800000/\AT.c7.count<=1000000:=K
theorem aqs(cD:List (Int×Int))(uN:Value)(s:ByteArray)(w:World)(dh:Ground w)(hit:CY w uN cD)(hs:s.size<=2000000):Calls prog 5 #[uN,.string s] w fun e w'=>e=.returned (.bool true)/\Below w.heap.size w w':=by
 have JY:min cD.length 12<=12:=Nat.min_le_right _ _;obtain⟨JZ,J0⟩:=PG cD _ JY;obtain⟨hx,dL,jk⟩:=aqr;have tV:Hid (Calls prog 16 #[uN] w fun e J=>∃b,e=.returned (M b)/\Hid (gF w b (mB cD (min cD.length 12)) J)):=u ((YO cD uN w dh hit).mono (by
  rintro e J ⟨b,rfl,hk⟩;exact⟨b,rfl,u hk⟩))
 have pc:Hid (∀J cN,gF w cN (mB cD (min cD.length 12)) J->Calls prog 16 #[uN] J fun e S=>∃b,e=.returned (M b)/\Hid (gQ w cN (mB cD (min cD.length 12)) b (mB cD (min cD.length 12)) S)):=u (fun J cN h1=>(YO cD uN J h1.xo (hit.below h1.ho)).mono (by
  rintro e S ⟨b,rfl,hk⟩;exact⟨b,rfl,u (gQ.of h1 hk)⟩))
 have AY:hA (min cD.length 12+1) (mB cD (min cD.length 12)).ck:=JZ;have r8:lw (mB cD (min cD.length 12)).ck:=J0;have uz:(mB cD (min cD.length 12)).c7.log.length<=10000:=hx;have qd:(mB cD (min cD.length 12)).c7.ng.length<=800000:=dL;have xn:(mB cD (min cD.length 12)).c7.count<=1000000:=jk;have C5:(mB cD (min cD.length 12)).nj=[]:=rfl;generalize atH:min cD.length 12+1=aqt at AY;have YV:aqt<=1000000000:=r;generalize mB cD (min cD.length 12)=c0 at *;have yT:Hid (∀W t,Ground W->Calls prog 17 #[.string t] W fun e w'=>e=.returned (.tuple #[.string (gU t),q (jr t:Int)])/\Hid (Below W.heap.size W w')):=u (fun W t R=>(ahj t W R.uJ).mono (fun e w' h=>⟨(YK h).1,u (YK h).2⟩))
 have C6:Hid (∀W b bL s2 t,gQ w b c0 bL s2 W->Calls prog 18 #[M b,.string ⟨#[117]⟩,.string t] W fun e aU=>∃a n c,e=.returned (.tuple #[.agg #[.slice a n c,q 0],q ((gE (fun _ _=>false) c0 hS t).qk:Int)])/\Hid (fW 0 aU (.slice a n c) (gE (fun _ _=>false) c0 hS t).out/\gQ w b (gE (fun _ _=>false) c0 hS t).FX bL s2 aU/\ki W aU)):=u (fun W b bL s2 t h=>(aqp h AY r8 hS t K uz qd xn C5).mono (by
  rintro e aU ⟨a,n,c,rfl,hk⟩;exact⟨a,n,c,by rw[(YU AY r8 YV C5 (fun _ _=>false) hS t).2.1];rfl,hk⟩))
 obtain⟨JQ,-,AW⟩:=YU AY r8 YV C5 (fun _ _=>false) hS s;have hu:¬(hS.data.toList=[]\/jf hS.data.toList=false):=K;by_cases ag:jr s≠0
 ·have sN:gU s=⟨#[]⟩:=by unfold gU;rw[if_neg ag]
  obtain⟨Y,am⟩:=aqn (f:=fun _ _=>false) (s:=c0) hu ag;have vD:Hid (∀W b bL s2,gQ w b c0 bL s2 W->Calls prog 18 #[M b,.string ⟨#[117]⟩,.string s] W fun e aU=>∃a c,e=.returned (.tuple #[.agg #[.slice a 0 c,q 0],q ((gE (fun _ _=>false) c0 hS s).qk:Int)])/\Hid (Below w.heap.size w aU)):=u (fun W b bL s2 h=>(C6.out W b bL s2 s h).mono (by
   rintro e aU ⟨a,n,c,rfl,hk⟩;obtain⟨ct,dR,_⟩:=hk.out;rw[Y] at ct;have ar:n=0:=by obtain⟨bE,C,bN,_⟩:=id ct;obtain⟨nB,e7,q1⟩:=cG C;injection q1 with _ q1 _;rw[q1,bN];rfl
   subst ar;exact⟨a,c,rfl,u dR.ho⟩))
  have aqu:¬(jr s:Int)=0:=r;have atI:((jr s:Int)==0)=false:=by rw[cV];exact aqu
  have gA:=yT;have xf:Hid (∀W,Ground W->Calls prog 17 #[.string s] W fun e w'=>e=.returned (.tuple #[.string ⟨#[]⟩,q (jr s:Int)])/\Hid (Below W.heap.size W w')):=u (fun W R=>by have:=yT.out W s R;rw[sN] at this;exact this);generalize (gE (fun _ _=>false) c0 hS s).qk=YW at *;generalize jr s=PU at *;clear gA yT C6 AW Y dh hit AY r8 uz qd xn C5 JZ J0 hx dL jk sN JY;rcases am with rfl | rfl
  ·go_enter func5,ntmps5;go_wp2_with (first
    | (go_at_call 18;refine(vD.out aA cN bL _ (iH.out.below l2.out)).mono ?_;rintro e bI ⟨dc,de,rfl,l9⟩)
    | (go_at_call 17;refine(xf.out S iH.out.xo).mono ?_;rintro e aA ⟨rfl,l2⟩)
    | (go_at_call 16;refine(pc.out J cN H1.out).mono ?_;rintro e S ⟨bL,rfl,iH⟩)
    | (go_at_call 16;refine tV.out.mono ?_;rintro e J ⟨cN,rfl,H1⟩))
   go_ret;exact⟨rfl,l9.out.alloc l9.out.size _⟩
  ·by_cases h1:PU=1
   ·subst h1;go_enter func5,ntmps5;go_wp2_with (first
     | (go_at_call 18;refine(vD.out aA cN bL _ (iH.out.below l2.out)).mono ?_;rintro e bI ⟨dc,de,rfl,l9⟩)
     | (go_at_call 17;refine(xf.out S iH.out.xo).mono ?_;rintro e aA ⟨rfl,l2⟩)
     | (go_at_call 16;refine(pc.out J cN H1.out).mono ?_;rintro e S ⟨bL,rfl,iH⟩)
     | (go_at_call 16;refine tV.out.mono ?_;rintro e J ⟨cN,rfl,H1⟩))
    go_ret;exact⟨rfl,l9.out.alloc l9.out.size _⟩
   ·have H:((1:Int)==(PU:Int))=false:=by rw[cV];omega
    have ab:¬(1:Int)=(PU:Int):=r;go_enter func5,ntmps5;go_wp2_with (first
     | (go_at_call 18;refine(vD.out aA cN bL _ (iH.out.below l2.out)).mono ?_;rintro e bI ⟨dc,de,rfl,l9⟩)
     | (go_at_call 17;refine(xf.out S iH.out.xo).mono ?_;rintro e aA ⟨rfl,l2⟩)
     | (go_at_call 16;refine(pc.out J cN H1.out).mono ?_;rintro e S ⟨bL,rfl,iH⟩)
     | (go_at_call 16;refine tV.out.mono ?_;rintro e J ⟨cN,rfl,H1⟩))
    go_ret;exact⟨rfl,l9.out.alloc l9.out.size _⟩
 ·have YX:jr s=0:=by simpa using ag
  have Ep:Hid (∀W,Ground W->Calls prog 17 #[.string s] W fun e w'=>e=.returned (.tuple #[.string (gU s),q 0])/\Hid (Below W.heap.size W w')):=u (fun W R=>by have:=yT.out W s R;rw[YX] at this;exact this);have C3:Hid (∀W b bL,gQ w b c0 bL c0 W->Calls prog 18 #[M b,.string ⟨#[117]⟩,.string s] W fun e aU=>∃a n c,e=.returned (.tuple #[.agg #[.slice a n c,q 0],q ((gE (fun _ _=>false) c0 hS s).qk:Int)])/\Hid (fW 0 aU (.slice a n c) (gE (fun _ _=>false) c0 hS s).out/\gQ w b (gE (fun _ _=>false) c0 hS s).FX bL c0 aU)):=u (fun W b bL h=>(C6.out W b bL c0 s h).mono (by
   rintro e aU ⟨a,n,c,rfl,hk⟩;exact⟨a,n,c,rfl,u ⟨hk.out.1,hk.out.2.1⟩⟩))
  by_cases YY:400<(gU s).size
  ·have ua:Hid (∀W,Ground W->Calls prog 17 #[.string (gU s)] W fun e w'=>∃bp,e=.returned (.tuple #[.string bp,q 1])/\Hid (Below W.heap.size W w')):=u (fun W R=>by
    have:=yT.out W (gU s) R;rw[aqd YY] at this;exact this.mono (fun e w' h=>⟨_,h.1,h.2⟩))
   have me:(400:Int)<((gU s).size:Int):=r;generalize (gE (fun _ _=>false) c0 hS s).qk=YW at *;generalize gU s=T at *;clear yT C6 AW dh hit AY r8 uz qd xn C5 JZ J0 hx dL jk JY;go_enter func5,ntmps5;go_upto_region 9 with(first
    | (go_at_call 18;refine(C3.out aA cN bL (iH.out.below l2.out)).mono ?_;rintro e bI ⟨dc,on,de,rfl,l9⟩)
    | (go_at_call 17;refine(Ep.out S iH.out.xo).mono ?_;rintro e aA ⟨rfl,l2⟩)
    | (go_at_call 16;refine(pc.out J cN H1.out).mono ?_;rintro e S ⟨bL,rfl,iH⟩)
    | (go_at_call 16;refine tV.out.mono ?_;rintro e J ⟨cN,rfl,H1⟩))
   have rq:Hid (Ground (bI.alloc (.cells #[.slice dc on de,q 0] 33))/\Below w.heap.size w (bI.alloc (.cells #[.slice dc on de,q 0] 33))):=u ⟨l9.out.2.xo.below cT,l9.out.2.ho.alloc l9.out.2.ho.size _⟩;go_wp2_with (go_at_call 17;refine(ua.out _ rq.out.1).mono ?_;rintro e cw ⟨bp,rfl,p6⟩);go_ret;exact⟨rfl,Below.fK rq.out.2 p6.out⟩
  ·have hle:(gU s).size<=400:=r;obtain⟨Y,am,bm⟩:=aqb YX hle;have hq:=aqo (f:=fun _ _=>false) (s:=c0) (cU:=hS) Y;have ua:Hid (∀W,Ground W->Calls prog 17 #[.string (gU s)] W fun e w'=>e=.returned (.tuple #[.string (gU s),q 0])/\Hid (Below W.heap.size W w')):=u (fun W R=>by
    have:=yT.out W (gU s) R;rw[am,bm] at this;exact this)
   have YZ:Hid (∀W b bL s2,gQ w b c0 bL s2 W->Calls prog 18 #[M b,.string ⟨#[117]⟩,.string (gU s)] W fun e aU=>∃a n c,e=.returned (.tuple #[.agg #[.slice a n c,q 0],q ((gE (fun _ _=>false) c0 hS s).qk:Int)])/\Hid (fW 0 aU (.slice a n c) (gE (fun _ _=>false) c0 hS s).out/\Below w.heap.size w aU/\ki W aU)):=u (fun W b bL s2 h=>by
    have:=C6.out W b bL s2 (gU s) h;rw[hq] at this;exact this.mono (by
     rintro e aU ⟨a,n,c,rfl,hk⟩;exact⟨a,n,c,rfl,u ⟨hk.out.1,hk.out.2.1.ho,hk.out.2.2⟩⟩))
   have PV:Hid (∀W a n c,fW 0 W (.slice a n c) (gE (fun _ _=>false) c0 hS s).out->Calls prog 19 #[.agg #[.slice a n c,q 0],q ((gE (fun _ _=>false) c0 hS s).qk:Int)] W fun x w'=>x=.returned (.string (a7 (C0 ((gE (fun _ _=>false) c0 hS s).qk:Int) 0 (gE (fun _ _=>false) c0 hS s).out)))/\Hid (Below W.heap.size W w')):=u (fun W a n c ct=>(apB _ 0 _ _ W ct AW r r r r).mono (fun x w' h=>⟨h.1,u h.2⟩));have me:((gU s).size:Int)<=(400:Int):=r;generalize a7 (C0 ((gE (fun _ _=>false) c0 hS s).qk:Int) 0 (gE (fun _ _=>false) c0 hS s).out)=gh at *;generalize qG:gE (fun _ _=>false) c0 hS s=aqv at *;clear qG;obtain⟨YW,atJ,PW,Y0⟩:=aqv;simp only[] at C3 YZ PV;generalize gU s=T at *;clear yT C6 AW JQ dh hit AY r8 uz qd xn C5 JZ J0 hx dL jk JY Y am bm hq YY
   go_enter func5,ntmps5;go_upto_region 9 with(first
    | (go_at_call 18;refine(C3.out aA cN bL (iH.out.below l2.out)).mono ?_;rintro e bI ⟨dc,on,de,rfl,l9⟩)
    | (go_at_call 17;refine(Ep.out S iH.out.xo).mono ?_;rintro e aA ⟨rfl,l2⟩)
    | (go_at_call 16;refine(pc.out J cN H1.out).mono ?_;rintro e S ⟨bL,rfl,iH⟩)
    | (go_at_call 16;refine tV.out.mono ?_;rintro e J ⟨cN,rfl,H1⟩))
   have Ge:Hid ((bI.alloc (.cells #[.slice dc on de,q 0] 33)).heap[bI.heap.size]?=some (.cells #[.slice dc on de,q 0] 33 (0,0))/\fW 0 (bI.alloc (.cells #[.slice dc on de,q 0] 33)) (.slice dc on de) PW/\gQ w cN Y0 bL c0 (bI.alloc (.cells #[.slice dc on de,q 0] 33))):=u ⟨bH bI _,l9.out.1.below cT,l9.out.2.below cT⟩;generalize bI.alloc (.cells #[.slice dc on de,q 0] 33)=lU at *;generalize bI.heap.size=Ad at *;go_upto_region 13 with(first
    | (go_at_call 18;refine(YZ.out bh bL cN Y0 (Ge.out.2.2.below rq.out).swap).mono ?_;rintro e cw ⟨eB,e4,dp,rfl,p6⟩)
    | (go_at_call 17;refine(ua.out lU Ge.out.2.2.xo).mono ?_;rintro e bh ⟨rfl,rq⟩))
   have AZ:Hid (((cw.alloc (.cells #[.slice eB e4 dp,q 0] 33)).heap[cw.heap.size]?=some (.cells #[.slice eB e4 dp,q 0] 33 (0,0))/\fW 0 (cw.alloc (.cells #[.slice eB e4 dp,q 0] 33)) (.slice eB e4 dp) PW)/\((cw.alloc (.cells #[.slice eB e4 dp,q 0] 33)).heap[Ad]?=some (.cells #[.slice dc on de,q 0] 33 (0,0))/\fW 0 (cw.alloc (.cells #[.slice eB e4 dp,q 0] 33)) (.slice dc on de) PW)/\Below w.heap.size w (cw.alloc (.cells #[.slice eB e4 dp,q 0] 33))):=u (by
    have dF:=(Below.refl cw.heap.size cw).alloc ap (.cells #[.slice eB e4 dp,q 0] 33);have av:=(ki.below rq.out).trans (p6.out.2.2.trans (ki.below dF));exact⟨⟨bH cw _,p6.out.1.below dF⟩,⟨av.other _ _ _ _ Ge.out.1 (F9 (.inr (.inr (.inr rfl)))),av.out Ge.out.2.1⟩,Below.fK p6.out.2.1 dF⟩)
   generalize cw.alloc (.cells #[.slice eB e4 dp,q 0] 33)=tH at *;generalize cw.heap.size=Y1 at *;clear Ge;obtain⟨bk,c1⟩:tH.cell? ⟨Ad,0,none⟩=some (.slice dc on de)/\tH.cell? ⟨Ad,1,none⟩=some (q 0):=⟨Z AZ.out.2.1.1 (i:=0) rfl,Z AZ.out.2.1.1 (i:=1) rfl⟩;go_upto_region 14 with(go_at_call 19;refine(PV.out tH dc on de AZ.out.2.1.2).mono ?_;rintro x mL ⟨rfl,xU⟩);obtain⟨c2,dZ⟩:mL.cell? ⟨Y1,0,none⟩=some (.slice eB e4 dp)/\mL.cell? ⟨Y1,1,none⟩=some (q 0):=⟨Z (Below.a8 xU.out AZ.out.1.1) (i:=0) rfl,Z (Below.a8 xU.out AZ.out.1.1) (i:=1) rfl⟩;go_wp2_with (go_at_call 19;refine(PV.out mL eB e4 dp (AZ.out.1.2.below xU.out)).mono ?_;rintro x zx ⟨rfl,GR⟩);go_ret;exact⟨rfl,Below.fK AZ.out.2.2 (Below.fK xU.out GR.out)⟩
end Go.Proofs.YtbkeflgafjnefaaGreatDoor
