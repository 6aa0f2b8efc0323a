import Derived.Test.YtbkeflgafjnefaaGreatDoorM040
import Derived.Test.YtbkeflgafjnefaaGreatDoorM041
set_option maxHeartbeats 20000000
set_option maxRecDepth 100000
set_option linter.all false
namespace Go.Proofs.YtbkeflgafjnefaaGreatDoor
open Tryz
open bS
variable{s:ni}{eH:ByteArray}{e t:aL}{W aU w:World}{a:Option Addr}{N b c n:Nat}{F:Nat->Prop}{B:List bG}{O:Int}{V:List (ByteArray×ByteArray)}{cD:List (Int×Int)}
def fL:ByteArray:=⟨#[116]⟩
def hS:ByteArray:=⟨#[117]⟩
def F8:ByteArray:=⟨#[120,58,105,44,121,58,116]⟩
def CU:ByteArray:=⟨#[115,101,108,101,99,116,32,97,46,120,44,32,97,46,121,32,102,114,111,109,32,116,32,97]⟩
def CV:ByteArray:=⟨#[115,101,108,101,99,116,32,97,46,120,32,102,114,111,109,32,116,32,97]⟩
def mA:List (ByteArray×Nat):=[(⟨#[120]⟩,1),(⟨#[121]⟩,2)]
theorem PE:lL Eb fL F8=(0,⟨[⟨fL,mA,[],0⟩],0⟩):=ax
theorem Yb:mF ⟨[⟨fL,mA,[],0⟩],0⟩ fL [⟨#[55]⟩,⟨#[39,113,39]⟩]=(1,0,⟨[⟨fL,mA,[(1,[⟨1,7,[]⟩,⟨2,0,[113]⟩])],1⟩],0⟩):=ax
theorem Yc:pz ⟨[⟨fL,mA,[(1,[⟨1,7,[]⟩,⟨2,0,[113]⟩])],1⟩],0⟩ fL 1=(0,⟨[⟨fL,mA,[],1⟩],0⟩):=ax
def t1:aL:=((hC CU).getD ([],.nil)).2
def t2:aL:=((hC CV).getD ([],.nil)).2
theorem aoR:hC CU=some (((hC CU).getD ([],.nil)).1,t1):=ax
theorem aoS:hC CV=some (((hC CV).getD ([],.nil)).1,t2):=ax
def r9:List bG:=[⟨fL,mA,[(1,[⟨1,7,[]⟩,⟨2,0,[113]⟩])],1⟩]
def vI:List bG:=[⟨fL,mA,[],1⟩]
theorem aoT:hN (pq r9) CU=0:=ax
theorem aoU:hN (pq vI) CV=0:=ax
theorem aoV:(bR r9 0 t1 [] nG).2.1=[([⟨1,7,[]⟩,⟨2,0,[113]⟩],[[(1,[⟨1,7,[]⟩,⟨2,0,[113]⟩])]])]:=ax
theorem aoW:(bR r9 0 t1 [] nG).2.2.dE=false:=ax
theorem aoX:(bR vI 0 t2 [] nG).2.1=[]:=ax
theorem aoY:(bR vI 0 t2 [] nG).2.2.dE=false:=ax
theorem aoZ:iO (eM t1) [[(1,[⟨1,7,[]⟩,⟨2,0,[113]⟩])]] (eM t1).length=[(fL,1)]:=ax
theorem Yd{α:Type}(ew:α->α->Int)(a:α):kM ew [a]=[a]:=by unfold kM;exact List.mergeSort_singleton a
theorem Ye{α:Type}(ew:α->α->Int):kM ew ([]:List α)=[]:=by unfold kM;exact List.mergeSort_nil
theorem ao0(t:fo):p7 [t]=[t]:=rfl
theorem Yf(t:fo):hj [[t]]=[t]:=by unfold hj;rw[show([[t]]:List (List fo)).flatten=[t] from rfl,Yd,ao0]
def JH:List l7:=[([⟨#[55]⟩,⟨#[39,113,39]⟩],[(fL,1)])]
theorem ao1:oK r9 0 (eM t1) t1=some JH:=by unfold oK;rw[aoW,aoV,if_neg K,List.map_cons,List.map_nil];unfold lG;simp only[];rw[aoZ,Yf,Yd];kernel_rfl
theorem ao2:oK vI 0 (eM t2) t2=some []:=by unfold oK;rw[aoY,aoX,if_neg K,List.map_nil,Ye];rfl
def JI:ni:=⟨⟨r9,0⟩,⟨[],[],0⟩,[],0⟩
def JJ:ni:=⟨⟨vI,0⟩,nh hS 0 [(fL,1)] ⟨[],[],0⟩,[],0⟩
def AT:ni:=⟨⟨vI,0⟩,nh hS 0 [] (nh hS 0 [(fL,1)] ⟨[],[],0⟩),[],0⟩
theorem Yg{f:qh->n9->Bool}{cU:ByteArray}{ts:List ByteArray}{out:List l7}(h1:¬(cU.data.toList=[]\/jf cU.data.toList=false))(H:hN (pq s.ck.bY) eH=0)(ab:hC eH=some (ts,t))(aK:oK s.ck.bY s.ck.dS (eM t) t=some out)(cO:s.c7.count<60)(cE:s.nj=[]):gE f s cU eH=⟨0,0,out,{s with c7:=nh cU s.ck.dS (hj (out.map (·.2))) s.c7}⟩:=by unfold gE;rw[if_neg h1,if_neg (by rw[H];exact fun h=>h rfl),ab];simp only[];rw[aK];simp only[];rw[if_neg r,cE,if_neg (fun h=>h rfl)]
theorem ao3:hj []=[]:=by unfold hj;rw[show([]:List (List fo)).flatten=[] from rfl,Ye];rfl
theorem ao4(f:qh->n9->Bool):gE f JI hS CU=⟨0,0,JH,⟨⟨r9,0⟩,nh hS 0 [(fL,1)] ⟨[],[],0⟩,[],0⟩⟩:=by have h:=Yg (f:=f) (s:=JI) (cU:=hS) K aoT aoR ao1 K rfl;have hu:hj (JH.map (·.2))=[(fL,1)]:=Yf _;rw[hu] at h;exact h
theorem ao5(f:qh->n9->Bool):gE f JJ hS CV=⟨0,0,[],AT⟩:=by have h:=Yg (f:=f) (s:=JJ) (cU:=hS) K aoU aoS ao2 K rfl;rw[show(([]:List l7).map (·.2))=[] from rfl,ao3] at h;exact h
open Go.RowKit Go.Sort Go.Shelf
theorem PF{lo:Nat}{l:List ByteArray}(h:w.ownsRow lo 9 1 (.slice a n c) l.length (l.map Value.string))(i:Nat)(hi:i<l.length):∃g,a=some ⟨g,0,none⟩/\g<w.heap.size/\w.cell? ⟨g,i,none⟩=some (.string l[i]):=by obtain⟨nB,e7,e⟩:=cG h;injection e with Y am bm;subst Y am bm;obtain⟨g,e,R⟩:=vA h r;subst e;have bk:=h.cells rfl i (.string l[i]) (by rw[List.getElem?_map,fC hi];rfl);rw[Addr.add_lit,Nat.zero_add] at bk;exact⟨g,rfl,R,bk⟩
theorem F9{t:TypeId}(h:t=44\/t=9\/t=47\/t=33):¬oM t:=by unfold oM;rcases h with rfl | rfl | rfl | rfl<;>decide
structure ki (W aU:World):Prop where
 size:W.heap.size<=aU.heap.size
 other:∀(k:Nat) (cs:Array Value) (t:TypeId) (m:Nat×Nat),W.heap[k]?=some (.cells cs t m)->¬oM t->aU.heap[k]?=some (.cells cs t m)
theorem ki.of(h:da F W aU)(hF:∀k,F k->oN W k/\8<=k):ki W aU:=⟨h.size,fun k cs t m e ar=>by
 refine(h.block k (jq e) (fun hk=>?_)).trans e;obtain⟨⟨fU,e6,pQ,bo,Es⟩,_⟩:=hF k hk;rw[e] at bo;injection bo with bo;injection bo with _ bo;exact ar (bo▸Es)⟩
theorem ki.below(h:Below W.heap.size W aU):ki W aU:=⟨h.size,fun _ _ _ _ e _=>Below.a8 h e⟩
theorem ki.trans{a b c:World}(h:ki a b)(g:ki b c):ki a c:=⟨bX h.size g.size,fun k cs t m e ar=>g.other k cs t m (h.other k cs t m e ar) ar⟩
theorem ki.row(h:ki W aU){base:Nat}{e:TypeId}{size:Nat}{v:Value}{xs:List Value}(ar:¬oM e)(ag:W.ownsRow base e size v n xs):aU.ownsRow base e size v n xs:=by
 refine⟨ag.1,?_⟩;rcases ag.2 with aa | ⟨g,af,ay,rfl,X,en,rest⟩
 ·exact .inl aa
 ·exact .inr ⟨g,af,ay,rfl,X,h.other _ _ _ _ en ar,rest⟩
theorem ki.out{W aU:World}(h:ki W aU){v:Value}{out:List l7}(ct:fW 0 W v out):fW 0 aU v out:=by obtain⟨bE,h1,H,ab⟩:=ct;exact⟨bE,h.row (F9 (.inl rfl)) h1,H,fun i a b=>⟨h.row (F9 (.inr (.inl rfl))) (ab i a b).1,h.row (F9 (.inr (.inr (.inl rfl)))) (ab i a b).2⟩⟩
structure gF (w:World) (b:Nat) (s:ni) (W:World):Prop where
 own:∃F,nH F W b s/\∀k,F k->w.heap.size<=k
 ho:Below w.heap.size w W
 xo:Ground W
theorem gF.below{w W aU:World}{b:Nat}{s:ni}(h:gF w b s W)(A:Below W.heap.size W aU):gF w b s aU:=by obtain⟨⟨F,h1,H⟩,ab,aK⟩:=h;exact⟨⟨F,h1.aside (G:=fun _=>False) ⟨A.os,A.tape,A.output,A.size,fun k hk _=>A.block k hk⟩ (fun _ _=>id),H⟩,Below.fK ab A,aK.below A⟩
theorem gF.call{fu:ni}(aw:∀k,F k->oN W k/\8<=k)(hF:∀k,F k->w.heap.size<=k)(A:Below w.heap.size w W)(R:Ground W)(bi:vE F W b fu aU):gF w b fu aU/\ki W aU:=by
 obtain⟨F',aI,aZ,a6⟩:=bi;refine⟨⟨⟨F',aI,fun U ae=>?_⟩,⟨a6.os.trans A.os,a6.tape.trans A.tape,a6.output.trans A.output,bX A.size a6.size,fun U ae=>?_⟩,R.anx a6 (fun U ae=>(aw U ae).2)⟩,ki.of a6 aw⟩
 ·rcases aZ U ae with h | h
  ·exact hF U h
  ·exact bX A.size h
 ·exact(a6.block U (e0 ae A.size) (fun x=>by have:=hF U x;omega)).trans (A.block U ae)
theorem ao6(h:gF w b s W)(ok:hA N s.ck)(name bl:ByteArray)(ar:name.size<=2000000)(ai:bl.size<=2000000):Calls prog 38 #[M b,.string name,.string bl] W fun e aU=>e=.returned (q ((lL s.ck name bl).1:Int))/\Hid (gF w b {s with ck:=(lL s.ck name bl).2} aU/\ki W aU):=by obtain⟨⟨F,h1,H⟩,ab,aK⟩:=h;refine(ant h1 aK.uJ.js ok aK.uJ name bl ar ai).mono ?_;rintro e aU ⟨rfl,bi⟩;exact⟨rfl,u (gF.call h1.1 H ab aK bi)⟩
theorem Yh(h:gF w b s W)(ok:hA N s.ck)(cS:N<=1000000000)(name:ByteArray)(U af:Nat)(ba:List ByteArray)(hv:zG W U ba)(ae:U<W.heap.size)(X:ba.length<=2000000)(hs:∀t∈ba,t.size<=2000000):Calls prog 39 #[M b,.string name,.slice (some ⟨U,0,none⟩) ba.length af] W fun e aU=>e=.returned (.tuple #[q ((mF s.ck name ba).1:Int),q ((mF s.ck name ba).2.1:Int)])/\Hid (gF w b {s with ck:=(mF s.ck name ba).2.2} aU/\ki W aU):=by obtain⟨⟨F,h1,H⟩,ab,aK⟩:=h;refine(anu h1 aK.uJ.js ok cS name U af ba hv ae X hs).mono ?_;rintro e aU ⟨rfl,bi⟩;exact⟨rfl,u (gF.call h1.1 H ab aK bi)⟩
theorem ao7(h:gF w b s W)(ok:hA N s.ck)(name:ByteArray)(m:Int):Calls prog 40 #[M b,.string name,q m] W fun e aU=>e=.returned (q ((pz s.ck name m).1:Int))/\Hid (gF w b {s with ck:=(pz s.ck name m).2} aU/\ki W aU):=by obtain⟨⟨F,h1,H⟩,ab,aK⟩:=h;refine(anv h1 aK.uJ.js ok name m).mono ?_;rintro e aU ⟨rfl,bi⟩;exact⟨rfl,u (gF.call h1.1 H ab aK bi)⟩
theorem Yi(h:gF w b s W)(ok:hA N s.ck)(fit:lw s.ck)(cU eH:ByteArray)(hu:cU.size<=1000000)(oE:s.c7.log.length<=10000)(kv:s.c7.ng.length<=800000)(wq:s.c7.count<=1000000)(aj:s.nj=[]):Calls prog 18 #[M b,.string cU,.string eH] W fun e aU=>∃a n c,e=.returned (.tuple #[.agg #[.slice a n c,q ((gE (fun _ _=>false) s cU eH).Jt:Int)],q ((gE (fun _ _=>false) s cU eH).qk:Int)])/\Hid (fW 0 aU (.slice a n c) (gE (fun _ _=>false) s cU eH).out/\gF w b (gE (fun _ _=>false) s cU eH).FX aU/\ki W aU):=by
 obtain⟨⟨F,h1,H⟩,ab,aK⟩:=h;refine(XV (fun _ _=>false) h1 ok fit aK cU eH hu oE kv wq (by rw[aj];exact bu) (fun p AK=>by rw[aj] at AK;cases AK)).mono ?_;rintro e aU ⟨a,n,c,rfl,ct,bi⟩;exact⟨a,n,c,rfl,u ⟨ct,gF.call h1.1 H ab aK bi⟩⟩
theorem ao8(w:World)(R:Ground w):Calls prog 37 #[] w fun e W=>∃b,e=.returned (M b)/\Hid (gF w b Js W):=by refine(anw w R.uJ.js).mono ?_;rintro e W ⟨k,F,rfl,h1,H,ab⟩;exact⟨k,rfl,u ⟨⟨F,h1,H⟩,ab,R.below ab⟩⟩
def JK(k:Nat):ByteArray:=if 10<=k then JG else im ((k:Int)-3)
def JL(k:Nat):ByteArray:=if k=5 then JG else a7 (39::(([97,98,99,100,101]:List UInt8).take k++[39]))
theorem ao9:∀k,k<12->(fy (JK k).data.toList).2=true/\((fy (JK k).data.toList).1.kind=0\/(fy (JK k).data.toList).1.kind=1)/\(JK k).size<=30:=by decide +kernel
theorem apa:∀k,k<6->(fy (JL k).data.toList).2=true/\((fy (JL k).data.toList).1.kind=0\/(fy (JL k).data.toList).1.kind=2)/\(JL k).size<=30:=by decide +kernel
def CW(c:Int):al:=(fy (nk c).data.toList).1
def CX(c:Int):al:=(fy (nl c).data.toList).1
theorem Yj(c:Int):bS.valOf (nk c)=some (CW c)/\((CW c).kind=0\/(CW c).kind=1)/\(nk c).size<=30:=by have h:=ao9 (qZ c 12) (F7 K).2;refine⟨?_,h.2.1,h.2.2⟩;unfold bS.valOf;have h1:(fy (nk c).data.toList).2=true:=h.1;rw[h1,if_pos rfl];rfl
theorem Yk(c:Int):bS.valOf (nl c)=some (CX c)/\((CX c).kind=0\/(CX c).kind=2)/\(nl c).size<=30:=by have h:=apa (qZ c 6) (F7 K).2;refine⟨?_,h.2.1,h.2.2⟩;unfold bS.valOf;have h1:(fy (nl c).data.toList).2=true:=h.1;rw[h1,if_pos rfl];rfl
def AU(cD:List (Int×Int)):Nat->List (Nat×List al)
 | 0=>[]
 | k+1=>AU cD k++[(k+2,[CW (cD.getD k (0,0)).1,CX (cD.getD k (0,0)).2])]
theorem Yl(cD:List (Int×Int)):∀k,(AU cD k).length=k
 | 0=>rfl
 | k+1=>by rw[AU,cu,Yl cD k];rfl
def uM(cD:List (Int×Int))(k:Nat):hG:=⟨[⟨fL,mA,AU cD k,k+1⟩],0⟩
def mB(cD:List (Int×Int))(k:Nat):ni:=⟨uM cD k,AT.c7,[],0⟩
theorem Ym(cD:List (Int×Int))(k:Nat)(hk:k<12):mF (uM cD k) fL [nk (cD.getD k (0,0)).1,nl (cD.getD k (0,0)).2]=(k+2,0,uM cD (k+1)):=by
 have av:fD (uM cD k).bY fL=some 0:=by unfold uM fD;rfl
 have bi:od ⟨fL,mA,AU cD k,k+1⟩ [nk (cD.getD k (0,0)).1,nl (cD.getD k (0,0)).2]=(k+2,0,⟨fL,mA,AU cD (k+1),k+2⟩):=by
  obtain⟨bM,b9,_⟩:=Yj (cD.getD k (0,0)).1;obtain⟨J,S,_⟩:=Yk (cD.getD k (0,0)).2;unfold od;rw[if_pos (show [nk (cD.getD k (0,0)).1,nl (cD.getD k (0,0)).2].length=mA.length from rfl)];have ak:iq bS.valOf [nk (cD.getD k (0,0)).1,nl (cD.getD k (0,0)).2]=some [CW (cD.getD k (0,0)).1,CX (cD.getD k (0,0)).2]:=by rw[iq,bM,iq,J,iq];rfl
  rw[ak];have au:q7 [CW (cD.getD k (0,0)).1,CX (cD.getD k (0,0)).2] mA=true:=by unfold mA;rw[q7,q7,q7];rcases b9 with e | e<;>rcases S with bo | bo<;>rw[e,bo]<;>rfl
  simp only[];rw[au,if_pos rfl,if_neg (by rw[Yl];omega)];rfl
 rw[Ht av (by show 0<1;omega)];have R:(uM cD k).bY[0]'(by show 0<1;omega)=⟨fL,mA,AU cD k,k+1⟩:=rfl;rw[R,bi];rfl
theorem PG(cD:List (Int×Int)):∀k,k<=12->hA (k+1) (uM cD k)/\lw (uM cD k)
 | 0,_=>by
  refine⟨⟨by show 1<=6;omega,fun t au=>?_,by show(0:Int)<=0;omega,by show(0:Int)<=1000000000000;omega⟩,fun t au=>?_⟩
  ·obtain rfl:=ic (show t∈[_] from au);exact⟨by show 1<=2;omega,by show 2<=4;omega,bu,ap,fun c ai=>by
    have k4:c∈mA:=ai;unfold mA at k4;rcases List.mem_cons.1 k4 with rfl | k4
    ·exact .inl rfl
    ·obtain rfl:=ic k4;exact .inr rfl⟩
  ·obtain rfl:=ic (show t∈[_] from au);exact⟨fun C ag=>absurd ag (List.not_mem_nil),(show iP fL.data.toList=true by decide),fun C ag=>absurd ag (List.not_mem_nil)⟩
 | k+1,h=>by obtain⟨h1,H⟩:=PG cD k r;have e:=Ym cD k r;have ab:=h1.insert fL [nk (cD.getD k (0,0)).1,nl (cD.getD k (0,0)).2];have aK:=H.insert fL [nk (cD.getD k (0,0)).1,nl (cD.getD k (0,0)).2];rw[e] at ab aK;exact⟨ab,aK⟩
def CY(w:World)(v:Value)(l:List (Int×Int)):Prop:=(∃a af,v=.slice a l.length af/\(l=[]\/∃g off,a=some ⟨g,off,none⟩/\g<w.heap.size/\∀i (h:i<l.length),w.cell? ⟨g,off+i*2,none⟩=some (q l[i].1)/\w.cell? ⟨g,off+i*2+1,none⟩=some (q l[i].2)))/\l.length<=1048576/\∀x∈l,-9223372036854775808<=x.1/\x.1<=9223372036854775807/\-9223372036854775808<=x.2/\x.2<=9223372036854775807
theorem YL:hA 5 (⟨[⟨fL,mA,[],0⟩],0⟩:hG):=by have:=(hA.zero 5).create fL F8;rw[PE] at this;exact this
theorem Gc:hA 6 (⟨r9,0⟩:hG)/\lw (⟨r9,0⟩:hG):=by have h1:=YL.insert fL [⟨#[55]⟩,⟨#[39,113,39]⟩];have H:=(lw.zero.create fL F8).insert fL [⟨#[55]⟩,⟨#[39,113,39]⟩];rw[PE] at H;rw[Yb] at h1 H;exact⟨h1,H⟩
theorem YM:hA 6 (⟨vI,0⟩:hG)/\lw (⟨vI,0⟩:hG):=by have h1:=Gc.1.delete fL 1;have H:=Gc.2.delete fL 1;have e:pz (⟨r9,0⟩:hG) fL 1=(0,⟨vI,0⟩):=Yc;rw[e] at h1 H;exact⟨h1,H⟩
theorem YN{g:Nat}{x y:ByteArray}(h:w.heap[g]?=some (.cells #[.string x,.string y] 9 (0,0))):zG w g [x,y]:=fun i hi=>by
 have H:i=0\/i=1:=by simp at hi;omega
 rcases H with rfl | rfl
 ·exact Z h (i:=0) rfl
 ·exact Z h (i:=1) rfl
theorem YO(cD:List (Int×Int))(uN:Value)(w:World)(dh:Ground w)(hit:CY w uN cD):Calls prog 16 #[uN] w fun e w'=>∃b,e=.returned (M b)/\gF w b (mB cD (min cD.length 12)) w':=by
 obtain⟨⟨a,af,rfl,hit⟩,b7,k7⟩:=hit;have aqf:=u hit;have AB:=u k7;have YP:=u (ao8 w dh);have YQ:Hid (∀W b,gF w b Js W->Calls prog 38 #[M b,.string ⟨#[116]⟩,.string ⟨#[120,58,105,44,121,58,116]⟩] W fun e aU=>e=.returned (q 0)/\Hid (gF w b ⟨⟨[⟨fL,mA,[],0⟩],0⟩,⟨[],[],0⟩,[],0⟩ aU)):=u (fun W b h=>by
  have:=ao6 h (hA.zero 5) fL F8 K K;refine this.mono ?_;rintro e aU ⟨rfl,hk⟩;have gi:=hk.out.1;have ce:lL Js.ck fL F8=(0,⟨[⟨fL,mA,[],0⟩],0⟩):=PE;rw[ce] at gi ⊢;exact⟨rfl,u gi⟩)
 have YR:Hid (∀W b,gF w b ⟨⟨[⟨fL,mA,[],0⟩],0⟩,⟨[],[],0⟩,[],0⟩ W->Calls prog 39 #[M b,.string ⟨#[116]⟩,.slice (some ⟨W.heap.size,0,none⟩) 2 2] (W.alloc (.cells #[.string ⟨#[55]⟩,.string ⟨#[39,113,39]⟩] 9)) fun e aU=>e=.returned (.tuple #[q 1,q 0])/\Hid (gF w b JI aU)):=u (fun W b h=>by
  have dF:=(Below.refl W.heap.size W).alloc ap (.cells #[.string ⟨#[55]⟩,.string ⟨#[39,113,39]⟩] 9);have qy:=bH W (.cells #[.string ⟨#[55]⟩,.string ⟨#[39,113,39]⟩] 9);have:=Yh (h.below dF) YL K fL W.heap.size 2 [⟨#[55]⟩,⟨#[39,113,39]⟩] (YN qy) (jq qy) K K;refine this.mono ?_;rintro e aU ⟨rfl,hk⟩;have gi:=hk.out.1;have ce:mF ⟨[⟨fL,mA,[],0⟩],0⟩ fL [⟨#[55]⟩,⟨#[39,113,39]⟩]=(1,0,⟨r9,0⟩):=Yb;rw[ce] at gi ⊢;exact⟨rfl,u gi⟩)
 have C3:Hid (∀W b,gF w b JI W->Calls prog 18 #[M b,.string ⟨#[117]⟩,.string ⟨#[115,101,108,101,99,116,32,97,46,120,44,32,97,46,121,32,102,114,111,109,32,116,32,97]⟩] W fun e aU=>∃dc de,e=.returned (.tuple #[.agg #[.slice dc 1 de,q 0],q 0])/\Hid (fW 0 aU (.slice dc 1 de) JH/\gF w b ⟨⟨r9,0⟩,nh hS 0 [(fL,1)] ⟨[],[],0⟩,[],0⟩ aU)):=u (fun W b h=>by
  refine(Yi h Gc.1 Gc.2 hS CU K K K K rfl).mono ?_;rintro e aU ⟨dc,on,de,rfl,hk⟩;obtain⟨ct,bZ,_⟩:=hk.out;rw[ao4] at ct bZ ⊢;have PR:on=1:=by obtain⟨bE,C,am,_⟩:=id ct;obtain⟨nB,e7,Y⟩:=cG C;injection Y with _ Y _;rw[Y,am];rfl
  subst PR;exact⟨dc,de,rfl,u ⟨ct,bZ⟩⟩)
 have C1:Hid (∀W b,gF w b ⟨⟨r9,0⟩,nh hS 0 [(fL,1)] ⟨[],[],0⟩,[],0⟩ W->Calls prog 40 #[M b,.string ⟨#[116]⟩,q 1] W fun e aU=>e=.returned (q 0)/\Hid (gF w b JJ aU/\ki W aU)):=u (fun W b h=>by
  refine(ao7 h Gc.1 fL 1).mono ?_;rintro e aU ⟨rfl,hk⟩;have gi:=hk.out;have ce:pz (⟨r9,0⟩:hG) fL 1=(0,⟨vI,0⟩):=Yc;rw[ce] at gi ⊢;exact⟨rfl,u gi⟩)
 have vD:Hid (∀W b,gF w b JJ W->Calls prog 18 #[M b,.string ⟨#[117]⟩,.string ⟨#[115,101,108,101,99,116,32,97,46,120,32,102,114,111,109,32,116,32,97]⟩] W fun e aU=>∃dc de,e=.returned (.tuple #[.agg #[.slice dc 0 de,q 0],q 0])/\Hid (gF w b AT aU/\ki W aU)):=u (fun W b h=>by
  refine(Yi h YM.1 YM.2 hS CV K K K K rfl).mono ?_;rintro e aU ⟨dc,on,de,rfl,hk⟩;obtain⟨ct,bZ⟩:=hk.out;rw[ao5] at ct bZ ⊢;have PR:on=0:=by obtain⟨bE,C,am,_⟩:=id ct;obtain⟨nB,e7,Y⟩:=cG C;injection Y with _ Y _;rw[Y,am];rfl
  subst PR;exact⟨dc,de,rfl,u bZ⟩)
 clear dh hit k7;go_enter func16,ntmps16;go_upto_region 7 with(first
  | (go_at_call 18;refine(C3.out aA b l2.out).mono ?_;rintro e bI ⟨dc,de,rfl,l9⟩)
  | (go_at_call 39;refine(YR.out S b iH.out).mono ?_;rintro e aA ⟨rfl,l2⟩)
  | (go_at_call 38;refine(YQ.out J b H1.out).mono ?_;rintro e S ⟨rfl,iH⟩)
  | (go_at_call 37;refine YP.out.mono ?_;rintro e J ⟨b,rfl,H1⟩))
 go_upto_region 9 with(first
  | (go_at_call 18;refine(vD.out bh b rq.out.1).mono ?_;rintro e cw ⟨rl,vL,rfl,p6⟩)
  | (go_at_call 40;refine(C1.out _ b (l9.out.2.below cT)).mono ?_;rintro e bh ⟨rfl,rq⟩))
 have PS:Hid (gF w b AT (cw.alloc (.cells #[.slice rl 0 vL,q 0] 33))):=u (p6.out.1.below cT);obtain⟨g,aC,bA,ib,rfl,rfl,d0,d1,d2,d3,d4⟩:∃g aC bA ib,dc=some ⟨g,0,none⟩/\aC=some ⟨ib,0,none⟩/\(cw.alloc (.cells #[.slice rl 0 vL,q 0] 33)).cell? ⟨bI.heap.size,0,none⟩=some (.slice dc 1 de)/\(cw.alloc (.cells #[.slice rl 0 vL,q 0] 33)).cell? ⟨g,0,none⟩=some (.slice aC 2 bA)/\(cw.alloc (.cells #[.slice rl 0 vL,q 0] 33)).cell? ⟨ib,0,none⟩=some (.string ⟨#[55]⟩)/\(cw.alloc (.cells #[.slice rl 0 vL,q 0] 33)).cell? ⟨ib,1,none⟩=some (.string ⟨#[39,113,39]⟩)/\(cw.alloc (.cells #[.slice rl 0 vL,q 0] 33)).cell? ⟨cw.heap.size,0,none⟩=some (.slice rl 0 vL):=by
  have av:ki (bI.alloc (.cells #[.slice dc 1 de,q 0] 33)) (cw.alloc (.cells #[.slice rl 0 vL,q 0] 33)):=(rq.out.2.trans p6.out.2).trans (ki.below cT);have fA:=av.other _ _ _ _ (bH bI _) (F9 (.inr (.inr (.inr rfl))));have ct:=av.out (l9.out.1.below ((Below.refl _ _).alloc ap (.cells #[.slice dc 1 de,q 0] 33)));obtain⟨bE,C,am,k⟩:=ct;have kz:bE.length=1:=am;have lK:(cw.alloc (.cells #[.slice rl 0 vL,q 0] 33)).ownsRow 0 44 2 (.slice dc bE.length de) bE.length (bE.flatMap CH):=by rw[kz] at C ⊢;exact C
  obtain⟨g,eX,R,bk,c1⟩:=Ps lK 0 r;obtain⟨aI,_⟩:=k 0 r (by show 0<1;omega);obtain⟨aC,bA,Y⟩:=cG aI;rw[Y] at bk aI;obtain⟨ib,ev,_,nc⟩:=PF (l:=[⟨#[55]⟩,⟨#[39,113,39]⟩]) aI 0 (by show 0<2;omega);obtain⟨atD,C4,_,s1⟩:=PF (l:=[⟨#[55]⟩,⟨#[39,113,39]⟩]) aI 1 (by show 1<2;omega);rw[ev] at C4;injection C4 with C4;injection C4 with C4;subst C4;exact⟨g,aC,bA,ib,eX,ev,Z fA (i:=0) rfl,bk,nc,s1,Z (bH cw _) (i:=0) rfl⟩
 generalize cw.alloc (.cells #[.slice rl 0 vL,q 0] 33)=YS at *;clear YP YQ YR C3 C1 vD H1 iH l2 l9 rq p6;go_upto_region 12 with fail;clear d0 d1 d2 d3 d4;have H4:Hid (gF w b (mB cD 0) YS):=u PS.out;have kO:Hid (Below w.heap.size w YS):=u PS.out.ho;clear PS;go_loopg [5,6,12] 13 (fun U Ya kr gr wr=>∃k:Nat,gr=q (k:Int)/\k<=cD.length/\k<=12/\Hid (gF w b (mB cD k) wr)/\12-k<U);case atStart=>exact⟨0,rfl,bu,bu,H4,r⟩
 case round=>
  obtain⟨k,rfl,bZ,dR,e1,ae⟩:=hrel;by_cases jl:k<cD.length
  ·by_cases I4:k<12
   ·have JR:(k:Int)<(cD.length:Int):=r;have atE:(k:Int)<12:=r;obtain⟨g2,off,rfl,bC,iV⟩:∃g off,a=some ⟨g,off,none⟩/\g<w.heap.size/\∀i (h:i<cD.length),w.cell? ⟨g,off+i*2,none⟩=some (q cD[i].1)/\w.cell? ⟨g,off+i*2+1,none⟩=some (q cD[i].2):=by
     rcases aqf.out with h | h
     ·rw[h] at jl;exact absurd jl (fp _)
     ·exact h
    obtain⟨bz,cz,fP,mq⟩:=AB.out _ (ec jl);have ko:cD.getD k (0,0)=cD[k]:=by rw[List.getD_eq_getElem?_getD,fC jl];rfl
    have PT:Hid (mF (uM cD k) fL [nk cD[k].1,nl cD[k].2]=(k+2,0,uM cD (k+1))):=u (by have:=Ym cD k I4;rw[ko] at this;exact this);have uu:Hid (∀W,Below w.heap.size w W->W.cell? ⟨g2,off+k*2,none⟩=some (q cD[k].1)/\W.cell? ⟨g2,off+k*2+1,none⟩=some (q cD[k].2)):=u (fun W A=>⟨(A.cell (p:=⟨g2,off+k*2,none⟩) bC).trans (iV k jl).1,(A.cell (p:=⟨g2,off+k*2+1,none⟩) bC).trans (iV k jl).2⟩);have q9:IntKind.i64.wrap ((k:Int)+2)=(k:Int)+2:=by rw[IntKind.wrap_i64];omega
    have q8:IntKind.i64.wrap ((k:Int)+1)=(k:Int)+1:=by rw[IntKind.wrap_i64];omega
    clear iV ko;generalize cD[k]=aqg at *;obtain⟨q2,q3⟩:=aqg;simp only[] at bz cz fP mq PT uu;have vz:Below wr.heap.size wr wr.drew:=⟨rfl,rfl,rfl,ap,fun _ _=>rfl⟩;have aqh:Hid (Calls prog 23 #[q q2] wr.drew fun e J=>e=.returned (.string (nk q2))/\(J.cell? ⟨g2,off+k*2,none⟩=some (q q2)/\J.cell? ⟨g2,off+k*2+1,none⟩=some (q q3))/\Hid (gF w b (mB cD k) J)):=u ((aoP q2 wr.drew bz cz).mono (by
     rintro e J ⟨rfl,A⟩;have h1:=(e1.out.below vz).below A;exact⟨rfl,uu.out J h1.ho,u h1⟩))
    have aqi:Hid (∀W,gF w b (mB cD k) W->Calls prog 41 #[q q3] W fun e S=>e=.returned (.string (nl q3))/\(S.cell? ⟨g2,off+k*2,none⟩=some (q q2)/\S.cell? ⟨g2,off+k*2+1,none⟩=some (q q3))/\Hid (gF w b (mB cD k) S)):=u (fun W h=>(aoQ q3 W fP mq).mono (by
     rintro e S ⟨rfl,A⟩;have h1:=h.below A;exact⟨rfl,uu.out S h1.ho,u h1⟩))
    have aqj:Hid (∀W,gF w b (mB cD k) W->Calls prog 39 #[M b,.string ⟨#[116]⟩,.slice (some ⟨W.heap.size,0,none⟩) 2 2] (W.alloc (.cells #[.string (nk q2),.string (nl q3)] 9)) fun e aA=>e=.returned (.tuple #[q ((k:Int)+2),q 0])/\(aA.cell? ⟨g2,off+k*2,none⟩=some (q q2)/\aA.cell? ⟨g2,off+k*2+1,none⟩=some (q q3))/\Hid (gF w b (mB cD (k+1)) aA)):=u (fun W h=>by
     have dF:=(Below.refl W.heap.size W).alloc ap (.cells #[.string (nk q2),.string (nl q3)] 9);have qy:=bH W (.cells #[.string (nk q2),.string (nl q3)] 9);have:=Yh (h.below dF) (PG cD k dR).1 r fL W.heap.size 2 [nk q2,nl q3] (YN qy) (jq qy) (by show 2<=2000000;omega) (fun t au=>by
      have q1:=(Yj q2).2.2;have bN:=(Yk q3).2.2;rcases List.mem_cons.1 au with rfl | au
      ·omega
      ·obtain rfl:=ic au;omega)
     refine this.mono ?_;rintro e aA ⟨rfl,hk⟩;have gi:=hk.out.1;have ce:mF (mB cD k).ck fL [nk q2,nl q3]=(k+2,0,uM cD (k+1)):=PT.out;rw[ce] at gi ⊢;have YT:gF w b (mB cD (k+1)) aA:=gi;exact⟨rfl,uu.out aA YT.ho,u YT⟩)
    obtain⟨nc,s1⟩:=uu.out wr e1.out.ho;generalize nk q2=atF at *;generalize nl q3=atG at *;have ch:=u ae;clear ae bz cz fP mq PT vz bC uu;go_upto_region 14 with fail;go_region_held3 (fun w'=>w'.cell? ⟨g2,off+k*2,none⟩=some (q q2)/\w'.cell? ⟨g2,off+k*2+1,none⟩=some (q q3)) (go_keep) (first
     | (go_at_call 39;refine(aqj.out S kh.out).mono ?_;rintro e aA ⟨rfl,⟨bk,c1⟩,oO⟩)
     | (go_at_call 41;refine(aqi.out J jd.out).mono ?_;rintro e S ⟨rfl,⟨hr,cN⟩,kh⟩)
     | (go_at_call 23;refine aqh.out.mono ?_;rintro e J ⟨rfl,⟨a0,bq⟩,jd⟩))
    all_goals
     clear nc s1 a0 bq hr cN bk c1;go_wp2_with fail;have ae:=ch.out;go_roundg (gk-1);case measure=>omega
     case rel=>exact⟨k+1,by go_num,r,r,oO,r⟩
   ·have vq:k=12:=r;subst vq;have JR:((12:Nat):Int)<(cD.length:Int):=r;have bK:Hid (min cD.length 12=12):=u r;clear ae;go_wp2_with fail;go_ret;exact⟨b,rfl,by rw[bK.out];exact e1.out⟩
  ·have vq:k=cD.length:=r;have JR:(cD.length:Int)<=(k:Int):=r;have bK:Hid (min cD.length 12=k):=u r;clear ae vq;go_wp2_with fail;go_ret;exact⟨b,rfl,by rw[bK.out];exact e1.out⟩
theorem AY(g:az->List (List (Nat×List al))->az×List (List (Nat×List al)))(p:List (Nat×List al)->Bool)(R:∀st aP,st.dE=false->g st aP=(st,if p st.ad then aP++[st.ad] else aP)):∀(l:List (Nat×List al)) (st:az) (aP:List (List (Nat×List al))),st.ad=[]->st.dE=false->oz g l st aP=(st,aP++(l.filter fun C=>p [C]).map fun C=>[C])
 | [],st,aP,_,_=>by simp[oz]
 | C::l,st,aP,aw,h1=>by
  obtain⟨ad,bF,eP,dE⟩:=st;simp only at aw h1;subst aw h1;rw[oz,R _ _ rfl];simp only[List.nil_append,List.length_singleton,Nat.sub_self,List.take_zero];rw[AY g p R l ⟨[],bF,eP,false⟩ _ rfl rfl];by_cases aj:p [C]=true
  ·simp[aj]
  ·simp[aj]
theorem AZ(a8:az->Bool×az)(ba:az->List al×az)(f:List (Nat×List al)->List al)(Cu:∀s,a8 s=(true,s))(hv:∀s,ba s=(f s.ad,s)):∀(l:List (Nat×List al)) (aP:List (List al×List (List (Nat×List al)))) (st:az),st.ad=[]->st.dE=false->(k8 a8 ba (l.map fun C=>[[C]]) aP st).1=aP++l.map (fun C=>(f [C],[[C]]))/\(k8 a8 ba (l.map fun C=>[[C]]) aP st).2.dE=false
 | [],aP,st,_,h1=>by simp[k8,h1]
 | C::l,aP,st,aw,h1=>by
  obtain⟨ad,bF,eP,dE⟩:=st;simp only at aw h1;subst aw h1;rw[List.map_cons,k8];simp only[Bool.false_eq_true,if_false];have e:mp a8 ba [[C]] ⟨[],bF,eP,false⟩=([(f [C],[[C]])],⟨[],[[C]],eP,false⟩):=by unfold mp;simp[Cu,hv]
  rw[e];have aH:=AZ a8 ba f Cu hv l (aP++[(f [C],[[C]])]) ⟨[],[[C]],eP,false⟩ rfl rfl;rw[aH.1];exact⟨by simp,aH.2⟩
theorem H9{wh:aL}{s:ByteArray×ByteArray}(ak:dJ e=false)(p:List (Nat×List al)->Bool)(hk:∀st,iZ (bR B O wh (ea B [s])) wh st=(p st.ad,st))(f:List (Nat×List al)->List al)(hv:∀st,hL (ea B [s]) O e st=(f st.ad,st))(ar:(gC B s).length<=20000):(bR B O (.query e [s] wh .nil .nil) [] nG).2.1=((gC B s).filter fun C=>p [C]).map (fun C=>(f [C],[[C]]))/\(bR B O (.query e [s] wh .nil .nil) [] nG).2.2.dE=false:=by
 have ai:fY B [s]=(gC B s).length:=by simp[fY]
 have PN:iJ B [s] (iZ (bR B O wh (ea B [s])) wh) nG=(mQ (gC B s).length nG,((gC B s).filter fun C=>p [C]).map fun C=>[C]):=by
  unfold iJ;rw[ai];split
  ·rename_i aw;rw[ma aw];rfl
  ·have av:(mQ (gC B s).length nG).dE=false:=by simp[mQ,nG];omega
   rw[hB,if_neg (by rw[av];decide)];rw[AY _ p (fun st aP h=>by rw[hB,if_neg (by rw[h];decide),hk];rfl) _ _ _ rfl av,List.nil_append]
 have av:(mQ (gC B s).length nG).dE=false:=by simp[mQ,nG];omega
 have Cu:∀st,iZ (bR B O .nil (ea B [s])) .nil st=(true,st):=fun st=>rfl;have h:=AZ _ _ f Cu hv ((gC B s).filter fun C=>p [C]) [] (mQ (gC B s).length nG) rfl av;have R:mR e .nil .nil (hL (ea B [s]) O .nil) (mQ (gC B s).length nG,((gC B s).filter fun C=>p [C]).map fun C=>[C])=(((gC B s).filter fun C=>p [C]).map fun C=>[[C]],mQ (gC B s).length nG):=by unfold mR wD;rw[ak];simp[isNone]
 rw[bR];simp only[List.nil_append];rw[PN,R];rw[List.nil_append] at h;exact h
def jr:ByteArray:=⟨#[97]⟩
def xp:ByteArray:=⟨#[120]⟩
def vJ:aL:=.node 1 jr xp al.zero .nil .nil
theorem Cb(st:az):BP [⟨jr,mA⟩] st jr xp=((st.ad.getD 0 (0,[])).2).getD 0 al.zero:=by have:L0 [⟨jr,mA⟩] jr xp=some (0,0,1):=ax;unfold BP;rw[this]
def cls(c:Int):Nat:=if 10<=qZ c 12 then 0 else qZ c 12+1
def lI(j:Nat):al:=if j=0 then al.zero else ⟨1,(j:Int)-4,[]⟩
theorem um(c:Int):cls c<11:=by have:=(F7 (c:=c) (n:=12) K).2;unfold cls;split<;>omega
theorem PV:∀k,k<12->(fy (JK k).data.toList).1=lI (if 10<=k then 0 else k+1):=by
 intro k hk;rcases(by omega:k=0\/k=1\/k=2\/k=3\/k=4\/k=5\/k=6\/k=7\/k=8\/k=9\/k=10\/k=11) with rfl | rfl | rfl | rfl | rfl | rfl | rfl | rfl | rfl | rfl | rfl | rfl
 all_goals kernel_rfl
theorem C2(c:Int):CW c=lI (cls c):=PV (qZ c 12) (F7 K).2
def gU(cD:List (Int×Int))(k:Nat):Nat:=cls (cD.getD k (0,0)).1
theorem C5(cD:List (Int×Int)):∀n,AU cD n=(List.range n).map fun k=>(k+2,[CW (cD.getD k (0,0)).1,CX (cD.getD k (0,0)).2])
 | 0=>rfl
 | n+1=>by rw[AU,C5 cD n,List.range_succ,List.map_append];rfl
theorem DT(cD:List (Int×Int))(n:Nat):gC (uM cD n).bY (fL,jr)=AU cD n:=ax
theorem Ga(cD:List (Int×Int))(n:Nat):ea (uM cD n).bY [(fL,jr)]=[⟨jr,mA⟩]:=ax
theorem Ge{l:List fo}:∀(j:Nat) (_:j<=l.length) (i:Nat) (_:i<j) (X:i<l.length),l[i]∈dO l j
 | 0,_,i,h,_=>absurd h (fp _)
 | 1,aS,i,h,X=>by
  obtain rfl:i=0:=r;rw[dO];cases l with
  | nil=>simp at X
  | cons a C=>simp
 | j+2,aS,i,h,X=>by
  rw[N2 r r];by_cases hi:i<j+1
  ·have:=Ge (j+1) r i hi X;split
   ·exact this
   ·exact List.mem_append_left _ this
  ·obtain rfl:i=j+1:=r;split
   ·rename_i he;rw[he];exact Ge (j+1) r (j+1-1) r r
   ·exact List.mem_append_right _ (List.mem_singleton.2 rfl)
theorem YW(ls:List (List fo)){x:fo}(h:x∈ls.flatten):x∈hj ls:=by have cC:=(sS hf ls.flatten).mem_iff.2 h;obtain⟨i,hi,rfl⟩:=List.getElem_of_mem cC;exact Ge _ ap i hi hi
theorem YX(l:List fo)(h:l.Nodup):(hj [l]).length=l.length:=by have h1:=Pv [l];have H:=PO l (hj [l]) h (fun x aa=>YW [l] (by simpa using aa));rw[List.flatten_cons,List.flatten_nil,List.append_nil] at h1;omega
theorem sort_1(a:h8):kM pg [a]=[a]:=List.perm_singleton.1 (sS pg [a])
theorem PP{s:ByteArray×ByteArray}(F:az->Int×List (List al×List (List (Nat×List al)))×az)(ar:(gC B s).length<=20000):iJ B [s] (iZ F .nil) nG=(mQ (gC B s).length nG,(gC B s).map fun C=>[C]):=by
 have ai:fY B [s]=(gC B s).length:=by simp[fY]
 unfold iJ;rw[ai];split
 ·rename_i aw;rw[ma aw];rfl
 ·have av:(mQ (gC B s).length nG).dE=false:=by simp[mQ,nG];omega
  rw[hB,if_neg (by rw[av];decide)];rw[AY _ (fun _=>true) (fun st aP h=>by rw[hB,if_neg (by rw[h];decide)];rfl) _ _ _ rfl av,List.nil_append,List.filter_eq_self.2 (fun _ _=>rfl)]
theorem YY{s t:ByteArray×ByteArray}(F:az->Int×List (List al×List (List (Nat×List al)))×az)(h1:(gC B s).length=n)(H:(gC B t).length=n)(ar:n*n<=20000):∃cs,iJ B [s,t] (iZ F .nil) nG=(mQ (n*n) nG,cs)/\cs.length=n*n:=by
 have ai:fY B [s,t]=n*n:=by simp[fY,h1,H]
 unfold iJ;rw[ai];split
 ·rename_i aw;exact⟨[],by rw[aw],by rw[aw];rfl⟩
 ·have av:(mQ (n*n) nG).dE=false:=by simp[mQ,nG];omega
  obtain⟨cs,e,X⟩:=PH B 0 [s,t] (mQ (n*n) nG) [] av;refine⟨cs,?_,by rw[X,yT,yT,yT,h1,H,Nat.mul_one]⟩;rw[List.nil_append] at e;exact e
theorem PQ{st1:az}{cs:List (List (Nat×List al))}(ak:dJ e=true)(hk:iJ B V (iZ (bR B O .nil (ea B V)) .nil) nG=(st1,cs))(av:st1.dE=false)(aw:st1.ad=[]):(bR B O (.query e V .nil .nil .nil) [] nG).2.1=[((hL (ea B V) O e {st1 with bF:=cs,ad:=cs.headD []}).1,cs)]/\(bR B O (.query e V .nil .nil .nil) [] nG).2.2.dE=(hL (ea B V) O e {st1 with bF:=cs,ad:=cs.headD []}).2.dE:=by
 obtain⟨ad,bF,eP,dE⟩:=st1;simp only at av aw;subst av aw;rw[bR];simp only[List.nil_append];rw[hk];have R:mR e .nil .nil (hL (ea B V) O .nil) (⟨[],bF,eP,false⟩,cs)=([cs],⟨[],bF,eP,false⟩):=by unfold mR wD;rw[ak];simp[isNone]
 rw[R];simp only[k8,Bool.false_eq_true,if_false,mp,iZ,isNone,if_true,List.nil_append];exact⟨trivial,trivial⟩
theorem PU{x:List al×List (List (Nat×List al))}(h1:(bR B O t [] nG).2.1=[x])(H:(bR B O t [] nG).2.2.dE=false):oK B O V t=some [nF (lG V x)]:=by unfold oK;rw[H,if_neg K,h1,List.map_singleton,sort_1,List.map_singleton]
def eq(cD:List (Int×Int)):Nat->List Int
 | 0=>[]
 | k+1=>eq cD k++if gU cD k=0 then [] else [(gU cD k:Int)-4]
theorem BD(cD:List (Int×Int)):∀k,(eq cD k).length<=k
 | 0=>ap
 | k+1=>by
  have:=BD cD k;rw[eq,cu];split
  ·show _+0<=_;omega
  ·show _+1<=_;omega
theorem G2(cD:List (Int×Int)):∀k,∀x∈eq cD k,-3<=x/\x<=6
 | 0=>fun x aa=>by cases aa
 | k+1=>fun x aa=>by
  rw[eq] at aa;rcases List.mem_append.1 aa with h | h
  ·exact G2 cD k x h
  ·split at h
   ·cases h
   ·rename_i aw;obtain rfl:=ic h;have:gU cD k<11:=um _;omega
theorem PW:∀(l:List Int) (t:Int),(∀x∈l,-3<=x/\x<=6)->t-6*(l.length:Int)<=l.foldl (· + ·) t/\l.foldl (· + ·) t<=t+6*(l.length:Int)
 | [],t,_=>by simp
 | a::C,t,h=>by have h1:=h a (List.mem_cons_self ..);have H:=PW C (t+a) (fun x aa=>h x (List.mem_cons_of_mem _ aa));rw[List.foldl_cons,di];omega
theorem Il(cD:List (Int×Int))(k:Nat)(hk:k<=12): -72<=(eq cD k).foldl (· + ·) 0/\(eq cD k).foldl (· + ·) 0<=72:=by have h1:=PW _ 0 (G2 cD k);have H:=BD cD k;omega
theorem YZ(cD:List (Int×Int))(k:Nat): -3<=lh (eq cD k)/\lh (eq cD k)<=6/\-3<=mC (eq cD k)/\mC (eq cD k)<=6:=by
 have key:∀(l:List Int) (v:Int),(-3<=v/\v<=6)->(∀x∈l,-3<=x/\x<=6)->(-3<=l.foldl (fun m x=>if x<m then x else m) v/\l.foldl (fun m x=>if x<m then x else m) v<=6)/\-3<=l.foldl (fun m x=>if x > m then x else m) v/\l.foldl (fun m x=>if x > m then x else m) v<=6:=by
  intro l;induction l with
  | nil=>intro v hv _;exact⟨hv,hv⟩
  | cons a C aH=>intro v hv h;have ak:=h a (List.mem_cons_self ..);have ag:=fun x aa=>h x (List.mem_cons_of_mem _ aa);refine⟨(aH _ ?_ ag).1,(aH _ ?_ ag).2⟩<;>dsimp only<;>split<;>omega
 have A:=G2 cD k;cases X:eq cD k with
 | nil=>exact⟨by show(-3:Int)<=0;omega,by show(0:Int)<=6;omega,by show(-3:Int)<=0;omega,by show(0:Int)<=6;omega⟩
 | cons a C=>rw[X] at A;have:=key C a (A a (List.mem_cons_self ..)) (fun x aa=>A x (List.mem_cons_of_mem _ aa));exact⟨this.1.1,this.1.2,this.2.1,this.2.2⟩
theorem SJ(cD:List (Int×Int)):∀n,(((List.range n).map fun i=>lI (gU cD i)).filter fun v=>decide (v.kind≠0))=(eq cD n).map iX
 | 0=>rfl
 | n+1=>by
  rw[List.range_succ,List.map_append,List.filter_append,SJ cD n,eq,List.map_append];congr 1;by_cases h:gU cD n=0
  ·rw[if_pos h,List.map_singleton,h];rfl
  ·rw[if_neg h,List.map_singleton];have e:lI (gU cD n)=iX ((gU cD n:Int)-4):=by unfold lI;rw[if_neg h];rfl
   rw[e];rfl
def Up:ByteArray:=⟨#[121]⟩
def sy:ByteArray:=⟨#[98]⟩
def oc(k:Nat):aL:=.node k ⟨#[]⟩ ⟨#[]⟩ al.zero (.cons vJ .nil) .nil
def s3:aL:=.node 7 ⟨#[]⟩ ⟨#[]⟩ al.zero .nil .nil
def C0:aL:=.node 1 jr Up al.zero .nil .nil
def uO(l:List (Nat×List al)):al:=((l.getD 0 (0,[])).2).getD 0 al.zero
def Al(l:List (Nat×List al)):al:=((l.getD 0 (0,[])).2).getD 1 al.zero
theorem Uq(O:Int)(st:az):ca [⟨jr,mA⟩] O vJ st=(uO st.ad,st):=by simp only[vJ,ca,if_true];rw[Cb];rfl
theorem UL(O:Int)(st:az):ca [⟨jr,mA⟩] O C0 st=(Al st.ad,st):=by have:L0 [⟨jr,mA⟩] jr Up=some (0,1,2):=ax;simp only[C0,ca,if_true];unfold BP;rw[this];rfl
theorem Y1(cD:List (Int×Int))(n:Nat):((AU cD n).map fun C=>[C]).map uO=(List.range n).map fun i=>lI (gU cD i):=by rw[C5,List.map_map,List.map_map];apply List.map_congr_left;intro k _;show CW _=_;rw[C2];rfl
theorem UM(cD:List (Int×Int))(n:Nat)(b:ByteArray):gC (uM cD n).bY (fL,b)=AU cD n:=ax
theorem C6(cD:List (Int×Int))(n k:Nat)(ar:n<=12)(hk:8<=k/\k<=11):∃vM,oK (uM cD n).bY 0 [(fL,jr)] (.query (.cons (oc k) .nil) [(fL,jr)] .nil .nil .nil)=some [([a7 (iI (vK k (eq cD n)))],vM)]:=by
 have b1:=DT cD n;have av:(mQ (AU cD n).length nG).dE=false:=by rw[Yl];simp[mQ,nG];omega
 have uP:=PP (B:=(uM cD n).bY) (s:=(fL,jr)) (bR (uM cD n).bY 0 .nil (ea (uM cD n).bY [(fL,jr)])) (by rw[b1,Yl];omega);rw[b1] at uP;have oA:dJ (.cons (oc k) .nil)=true:=by simp[dJ,oc,hk.2];omega
 have h:=PQ (O:=0) (e:=.cons (oc k) .nil) oA uP av rfl;rw[Ga] at h;have dG:∀c∈((AU cD n).map fun C=>[C]),c.length=1:=fun c ai=>by obtain⟨C,_,rfl⟩:=List.mem_map.1 ai;rfl
 have NK:(((AU cD n).map fun C=>[C]).headD []).length<=1:=by cases AU cD n<;>simp
 obtain⟨jH,k2,-⟩:=Gd (ca [⟨jr,mA⟩] 0 vJ) uO (Uq 0) ((AU cD n).map fun C=>[C]) {mQ (AU cD n).length nG with bF:=(AU cD n).map fun C=>[C],ad:=((AU cD n).map fun C=>[C]).headD []} dG NK;rw[Y1,SJ] at jH;have A:=Il cD n ar;have hv:(hL [⟨jr,mA⟩] 0 (.cons (oc k) .nil) {mQ (AU cD n).length nG with bF:=(AU cD n).map fun C=>[C],ad:=((AU cD n).map fun C=>[C]).headD []}).1=[vK k (eq cD n)]/\(hL [⟨jr,mA⟩] 0 (.cons (oc k) .nil) {mQ (AU cD n).length nG with bF:=(AU cD n).map fun C=>[C],ad:=((AU cD n).map fun C=>[C]).headD []}).2.dE=false:=by simp only[hL,oc,ca];rw[jH,YK k _ _ (by unfold lY;omega)];exact⟨rfl,k2.trans av⟩
 rw[hv.1] at h;rw[hv.2] at h;exact⟨_,PU (V:=[(fL,jr)]) h.1 h.2⟩
theorem adx(cD:List (Int×Int))(n:Nat)(ar:n<=12):∃vM,oK (uM cD n).bY 0 [(fL,jr),(fL,sy)] (.query (.cons s3 .nil) [(fL,jr),(fL,sy)] .nil .nil .nil)=some [([im ((n*n:Nat):Int)],vM)]:=by
 have ahj:n*n<=12*12:=Nat.mul_le_mul ar ar;obtain⟨cs,uP,X⟩:=YY (B:=(uM cD n).bY) (s:=(fL,jr)) (t:=(fL,sy)) (n:=n) (bR (uM cD n).bY 0 .nil (ea (uM cD n).bY [(fL,jr),(fL,sy)])) (by rw[UM,Yl]) (by rw[UM,Yl]) r;have av:(mQ (n*n) nG).dE=false:=by simp[mQ,nG];omega
 have h:=PQ (O:=0) (e:=.cons s3 .nil) rfl uP av rfl;have h1:(bR (uM cD n).bY 0 (.query (.cons s3 .nil) [(fL,jr),(fL,sy)] .nil .nil .nil) [] nG).2.1=[([iX (cs.length:Int)],cs)]:=h.1;have H:(bR (uM cD n).bY 0 (.query (.cons s3 .nil) [(fL,jr),(fL,sy)] .nil .nil .nil) [] nG).2.2.dE=false:=h.2.trans av;rw[X] at h1;exact⟨_,PU (V:=[(fL,jr),(fL,sy)]) h1 H⟩
theorem UN(a8:az->Bool×az)(ba:az->List al×az)(Cu:∀s,a8 s=(true,s))(AV:List (List (Nat×List al))->List al)(hv:∀(g:List (List (Nat×List al))) (s:az),s.bF=g->s.ad=g.headD []->(∀c∈g,c.length=1)->s.dE=false->(ba s).1=AV g/\(ba s).2.dE=false/\(ba s).2.ad.length<=(g.headD []).length):∀(gs:List (List (List (Nat×List al)))) (aP:List (List al×List (List (Nat×List al)))) (st:az),(∀g∈gs,∀c∈g,c.length=1)->st.ad=[]->st.dE=false->(k8 a8 ba gs aP st).1=aP++gs.map (fun g=>(AV g,g))/\(k8 a8 ba gs aP st).2.dE=false
 | [],aP,st,_,_,h1=>by simp[k8,h1]
 | g::C,aP,st,R,aw,h1=>by
  obtain⟨ad,bF,eP,dE⟩:=st;simp only at aw h1;subst aw h1;rw[k8];simp only[Bool.false_eq_true,if_false];obtain⟨v1,v2,v3⟩:=hv g ⟨g.headD [],g,eP,false⟩ rfl rfl (R g (List.mem_cons_self ..)) rfl;have Y:(mp a8 ba g ⟨[],bF,eP,false⟩).1=[(AV g,g)]:=by unfold mp;simp only[Cu,if_true,List.nil_append,v1]
  have am:(mp a8 ba g ⟨[],bF,eP,false⟩).2.dE=false:=by unfold mp;simp only[Cu,if_true,List.nil_append,v2]
  have bm:(mp a8 ba g ⟨[],bF,eP,false⟩).2.ad=[]:=by unfold mp;simp only[Cu,if_true,List.nil_append];rw[show(ba ⟨g.headD [],g,eP,false⟩).2.ad.length-(g.headD []).length=0 from r,List.take_zero]
  rw[Y];obtain⟨i1,i2⟩:=UN a8 ba Cu AV hv C (aP++[(AV g,g)]) (mp a8 ba g ⟨[],bF,eP,false⟩).2 (fun g mw=>R g (List.mem_cons_of_mem _ mw)) bm am;rw[i1];exact⟨by simp,i2⟩
theorem UO(I:List eO)(O:Int)(st:az):hL I O .nil st=([],st):=rfl
theorem UP(I:List eO)(O:Int)(h t:aL)(st:az):hL I O (.cons h t) st=((ca I O h st).1::(hL I O t (ca I O h st).2).1,(hL I O t (ca I O h st).2).2):=rfl
def ov:aL:=.cons C0 (.cons s3 (.cons (oc 8) .nil))
def sm:aL:=.cons C0 .nil
def s0(g:List (List (Nat×List al))):List al:=[Al (g.headD []),iX (g.length:Int),iX ((((g.map uO).filter fun v=>decide (v.kind≠0)).length:Nat):Int)]
theorem adZ(g:List (List (Nat×List al)))(s:az)(h1:s.bF=g)(H:s.ad=g.headD [])(ab:∀c∈g,c.length=1)(aK:s.dE=false):(hL [⟨jr,mA⟩] 0 ov s).1=s0 g/\(hL [⟨jr,mA⟩] 0 ov s).2.dE=false/\(hL [⟨jr,mA⟩] 0 ov s).2.ad.length<=(g.headD []).length:=by
 have X:s.ad.length<=1:=by
  rw[H];cases g with
  | nil=>simp
  | cons a C=>have:=ab a (List.mem_cons_self ..);simp[this]
 obtain⟨jH,k2,-,mJ⟩:=Gd (ca [⟨jr,mA⟩] 0 vJ) uO (Uq 0) g s ab X;have ak:tX 8 (iw (ca [⟨jr,mA⟩] 0 vJ) g s).1 (iw (ca [⟨jr,mA⟩] 0 vJ) g s).2=(iX ((((g.map uO).filter fun v=>decide (v.kind≠0)).length:Nat):Int),(iw (ca [⟨jr,mA⟩] 0 vJ) g s).2):=by rw[jH];rfl
 have e:hL [⟨jr,mA⟩] 0 ov s=(s0 g,(iw (ca [⟨jr,mA⟩] 0 vJ) g s).2):=by
  unfold ov;simp only[UP,UO,UL];have Y:ca [⟨jr,mA⟩] 0 s3 s=(iX s.bF.length,s):=rfl;rw[Y];have am:ca [⟨jr,mA⟩] 0 (oc 8) s=tX 8 (iw (ca [⟨jr,mA⟩] 0 vJ) s.bF s).1 (iw (ca [⟨jr,mA⟩] 0 vJ) s.bF s).2:=by unfold oc;rw[ca]
  dsimp only;rw[am,h1,ak,H];rfl
 rw[e];refine⟨rfl,k2.trans aK,?_⟩;cases g with
 | nil=>show s.ad.length<=0;rw[H];exact ap
 | cons a C=>have:=ab a (List.mem_cons_self ..);show(iw (ca [⟨jr,mA⟩] 0 vJ) (a::C) s).2.ad.length<=a.length;omega
theorem ad0(cD:List (Int×Int))(n:Nat)(ar:n<=12):∃out,oK (uM cD n).bY 0 [(fL,jr)] (.query ov [(fL,jr)] .nil sm .nil)=some out/\(∀C∈out,∃y z,C.1=[y,im ((C.2.length:Nat):Int),z])/\(out.map fun C=>C.2.length).sum=n:=by
 have b1:=DT cD n;have av:(mQ (AU cD n).length nG).dE=false:=by rw[Yl];simp[mQ,nG];omega
 have uP:=PP (B:=(uM cD n).bY) (s:=(fL,jr)) (bR (uM cD n).bY 0 .nil (ea (uM cD n).bY [(fL,jr)])) (by rw[b1,Yl];omega);rw[b1,Ga] at uP;have I6:∀s,hL [⟨jr,mA⟩] 0 sm s=((fun l=>[Al l]) s.ad,s):=fun s=>by unfold sm;simp only[UP,UO,UL]
 obtain⟨q1,bN⟩:=PM (hL [⟨jr,mA⟩] 0 sm) (fun l=>[Al l]) I6 ((AU cD n).map fun C=>[C]) [] [] (mQ (AU cD n).length nG) rfl;generalize sx:qF (hL [⟨jr,mA⟩] 0 sm) ((AU cD n).map fun C=>[C]) [] [] (mQ (AU cD n).length nG)=gs at q1 bN;obtain⟨gs,st⟩:=gs;simp only at q1 bN;subst bN;rw[List.flatten_nil,List.nil_append] at q1;have dG:∀g∈gs,∀c∈g,c.length=1:=fun g R c ai=>by have:=q1.mem_iff.1 (List.mem_flatten.2 ⟨g,R,ai⟩);obtain⟨C,_,rfl⟩:=List.mem_map.1 this;rfl
 obtain⟨bq,a2⟩:=UN (iZ (bR (uM cD n).bY 0 .nil [⟨jr,mA⟩]) .nil) (hL [⟨jr,mA⟩] 0 ov) (fun s=>rfl) s0 adZ gs [] (mQ (AU cD n).length nG) dG rfl av;have ig:mR ov sm .nil (hL [⟨jr,mA⟩] 0 sm) (mQ (AU cD n).length nG,(AU cD n).map fun C=>[C])=(gs,mQ (AU cD n).length nG):=by unfold mR;rw[if_pos ax,if_neg K];exact sx
 have AN:(bR (uM cD n).bY 0 (.query ov [(fL,jr)] .nil sm .nil) [] nG).2=k8 (iZ (bR (uM cD n).bY 0 .nil [⟨jr,mA⟩]) .nil) (hL [⟨jr,mA⟩] 0 ov) gs [] (mQ (AU cD n).length nG):=by rw[bR];simp only[List.nil_append];rw[Ga,uP,ig]
 have ub:(((AU cD n).map fun C=>[C]).map fun c=>((fL,(((c.getD 0 (0,[])).1:Nat):Int)):fo)).Nodup:=by rw[C5,List.map_map,List.map_map];rw[List.nodup_iff_pairwise_ne,List.pairwise_map];refine List.Pairwise.imp ?_ (List.pairwise_lt_range (n:=n));intro i j tQ h;have H:=congrArg Prod.snd h;have ab:((i+2:Nat):Int)=((j+2:Nat):Int):=H;omega
 have UQ:∀g∈gs,(lG [(fL,jr)] (s0 g,g)).2.length=g.length:=fun g R=>by
  have e:iO [(fL,jr)] g 1=g.map fun c=>((fL,(((c.getD 0 (0,[])).1:Nat):Int)):fo):=by unfold iO;rw[show List.range 1=[0] from rfl,List.flatMap_cons,List.flatMap_nil,List.append_nil];rfl
  have AX:(iO [(fL,jr)] g 1).Nodup:=by rw[e];have h1:=(q1.map fun c=>((fL,(((c.getD 0 (0,[])).1:Nat):Int)):fo)).nodup_iff.2 ub;exact List.Nodup.sublist ((List.sublist_flatten_of_mem R).map _) h1
  show(hj [iO [(fL,jr)] g 1]).length=_;rw[YX _ AX,e,cZ]
 unfold oK;rw[AN,a2,if_neg K,bq,List.nil_append,List.map_map];refine⟨_,rfl,fun C ag=>?_,?_⟩
 ·obtain⟨x,aa,rfl⟩:=List.mem_map.1 ag;obtain⟨g,R,rfl⟩:=List.mem_map.1 ((sS pg _).mem_iff.1 aa);refine⟨a7 (iI (Al (g.headD []))),a7 (iI (iX ((((g.map uO).filter fun v=>decide (v.kind≠0)).length:Nat):Int))),?_⟩;show(s0 g).map (fun v=>a7 (iI v))=_;have:(nF (((lG [(fL,jr)]) ∘ fun g=>(s0 g,g)) g)).2.length=g.length:=UQ g R;rw[this];rfl
 ·rw[List.map_map];have aj:=((sS pg (gs.map ((lG [(fL,jr)]) ∘ fun g=>(s0 g,g)))).map (fun a:h8=>a.2.length)).sum_nat;have ae:((fun C:l7=>C.2.length) ∘ nF)=fun a:h8=>a.2.length:=rfl;rw[ae,aj,List.map_map];have e:gs.map ((fun a:h8=>a.2.length) ∘ ((lG [(fL,jr)]) ∘ fun g=>(s0 g,g)))=gs.map List.length:=List.map_congr_left (fun g R=>UQ g R);rw[e,<-XE,q1.length_eq,cZ,Yl]
theorem Am{out:List l7}(h:fW 0 W (.slice a n c) out):n=out.length:=by obtain⟨bE,C,bN,_⟩:=h;obtain⟨nB,e7,q1⟩:=cG C;injection q1 with _ q1 _;rw[q1,bN]
def Xz:ByteArray:=⟨#[115,101,108,101,99,116,32,97,46,121,44,32,99,111,117,110,116,40,42,41,44,32,99,111,117,110,116,40,97,46,120,41,32,102,114,111,109,32,116,32,97,32,103,114,111,117,112,32,98,121,32,97,46,121]⟩
def JN:ByteArray:=⟨#[115,101,108,101,99,116,32,99,111,117,110,116,40,97,46,120,41,32,102,114,111,109,32,116,32,97]⟩
def JO:ByteArray:=⟨#[115,101,108,101,99,116,32,115,117,109,40,97,46,120,41,32,102,114,111,109,32,116,32,97]⟩
def JP:ByteArray:=⟨#[115,101,108,101,99,116,32,99,111,117,110,116,40,42,41,32,102,114,111,109,32,116,32,97,44,32,116,32,98]⟩
def JQ:ByteArray:=⟨#[115,101,108,101,99,116,32,109,105,110,40,97,46,120,41,32,102,114,111,109,32,116,32,97]⟩
def JS:ByteArray:=⟨#[115,101,108,101,99,116,32,109,97,120,40,97,46,120,41,32,102,114,111,109,32,116,32,97]⟩
theorem XA:(hC Xz).map (·.2)=some (.query ov [(fL,jr)] .nil sm .nil):=ax
theorem Ys(cm:List (Nat×List al))(k:Nat):hN (pq [⟨fL,mA,cm,k⟩]) Xz=0:=ax
theorem ad1:(hC JN).map (·.2)=some (.query (.cons (oc 8) .nil) [(fL,jr)] .nil .nil .nil):=ax
theorem ad3(cm:List (Nat×List al))(k:Nat):hN (pq [⟨fL,mA,cm,k⟩]) JN=0:=ax
theorem ad5:(hC JO).map (·.2)=some (.query (.cons (oc 9) .nil) [(fL,jr)] .nil .nil .nil):=ax
theorem ahR(cm:List (Nat×List al))(k:Nat):hN (pq [⟨fL,mA,cm,k⟩]) JO=0:=ax
theorem ahS:(hC JP).map (·.2)=some (.query (.cons s3 .nil) [(fL,jr),(fL,sy)] .nil .nil .nil):=ax
theorem ahT(cm:List (Nat×List al))(k:Nat):hN (pq [⟨fL,mA,cm,k⟩]) JP=0:=ax
theorem ahU:(hC JQ).map (·.2)=some (.query (.cons (oc 10) .nil) [(fL,jr)] .nil .nil .nil):=ax
theorem anq(cm:List (Nat×List al))(k:Nat):hN (pq [⟨fL,mA,cm,k⟩]) JQ=0:=ax
theorem anr:(hC JS).map (·.2)=some (.query (.cons (oc 11) .nil) [(fL,jr)] .nil .nil .nil):=ax
theorem ans(cm:List (Nat×List al))(k:Nat):hN (pq [⟨fL,mA,cm,k⟩]) JS=0:=ax
theorem Yt{s:ByteArray}(h:(hC s).map (·.2)=some t):∃ts,hC s=some (ts,t):=by
 cases ag:hC s with
 | none=>rw[ag] at h;cases h
 | some x=>rw[ag] at h;obtain rfl:x.2=t:=bx h;exact⟨x.1,rfl⟩
def ey(w:World)(b:Nat)(cD:List (Int×Int))(n c:Nat)(W:World):Prop:=∃s,gF w b s W/\s.ck=uM cD n/\s.nj=[]/\s.c7.log.length<=c/\s.c7.ng.length<=60000*c/\s.c7.count<=c
theorem ey.below{w W aU:World}{b n c:Nat}{cD:List (Int×Int)}(h:ey w b cD n c W)(A:Below W.heap.size W aU):ey w b cD n c aU:=by obtain⟨s,k,C⟩:=h;exact⟨s,k.below A,C⟩
theorem ey.ho{w W:World}{b n c:Nat}{cD:List (Int×Int)}(h:ey w b cD n c W):Below w.heap.size w W:=by obtain⟨s,k,C⟩:=h;exact k.ho
theorem ey.of(h:gF w b (mB cD n) W):ey w b cD n 2 W:=⟨_,h,rfl,rfl,by show AT.c7.log.length<=2;decide,by show AT.c7.ng.length<=60000*2;decide,by show AT.c7.count<=2;decide⟩
theorem Yu{out:List l7}(ar:n<=12)(ai:c<=10)(h:ey w b cD n c W)(H:hN (pq (uM cD n).bY) eH=0)(ab:(hC eH).map (·.2)=some t)(aK:oK (uM cD n).bY 0 (eM t) t=some out):Calls prog 18 #[M b,.string ⟨#[117]⟩,.string eH] W fun e aU=>∃a e7,e=.returned (.tuple #[.agg #[.slice a out.length e7,q 0],q 0])/\Hid (fW 0 aU (.slice a out.length e7) out/\ey w b cD n (c+1) aU/\ki W aU):=by
 obtain⟨ts,ab⟩:=Yt ab;obtain⟨⟨ck,c7,nj,last⟩,k,he,aj,hx,dL,jk⟩:=h;obtain⟨JZ,J0⟩:=PG cD n ar;dsimp only at he aj hx dL jk;subst he aj;have hk:=Yi k JZ J0 hS eH K (by show c7.log.length<=10000;omega) (by show c7.ng.length<=800000;omega) (by show c7.count<=1000000;omega) rfl;obtain⟨ko,CS,_,⟨e,wh,il,hv,r7⟩,iu⟩:=PA H ab;have hu:(hj (out.map (·.2))).length<=60000:=by
  refine(XG (bd:=(uM cD n).bY) (J0.B JZ) (O:=0) K K (e:=e) (wh:=wh) (g:=il) (hv:=hv) (V:=eM t) ?_ ?_ iu ?_).2.2
  ·rw[<-r7];exact ko
  ·rw[<-r7];exact CS
  ·rw[<-r7];exact aK
 have cn:=Yg (f:=fun _ _=>false) (s:=⟨uM cD n,c7,[],last⟩) (cU:=hS) K H ab aK (by show c7.count<60;omega) rfl;rw[cn] at hk;refine hk.mono ?_;rintro e aU ⟨a,m,e7,rfl,ct⟩;have hm:=Am ct.d.1;subst hm;refine⟨a,e7,rfl,u ⟨ct.d.1,⟨_,ct.d.2.1,rfl,rfl,?_,?_,?_⟩,ct.d.2.2⟩⟩
 ·show(c7.log++[_]).length<=c+1;rw[cu,List.length_singleton];omega
 ·show(c7.ng++List.map _ _).length<=60000*(c+1);rw[cu,cZ];omega
 ·show c7.count+1<=c+1;omega
theorem Yv{dc:Option Addr}{gB i:Nat}{out:List l7}(h:fW 0 W (.slice dc n gB) out)(hi:i<out.length):∃g aC bA bt bD,dc=some ⟨g,0,none⟩/\W.cell? ⟨g,i*2,none⟩=some (.slice aC out[i].1.length bA)/\W.cell? ⟨g,i*2+1,none⟩=some (.slice bt out[i].2.length bD)/\∀k (hk:k<out[i].1.length),∃U,aC=some ⟨U,0,none⟩/\W.cell? ⟨U,k,none⟩=some (.string out[i].1[k]):=by have ar:=Am h;obtain⟨bE,C,am,k⟩:=h;have JT:i<bE.length:=r;have Yz:n=bE.length:=r;rw[Yz] at C;obtain⟨g,eX,R,bk,c1⟩:=Ps C i JT;obtain⟨aI,aZ⟩:=k i JT hi;obtain⟨aC,bA,Y⟩:=cG aI;obtain⟨bt,bD,bm⟩:=cG aZ;rw[Y] at bk aI;rw[bm] at c1;refine⟨g,aC,bA,bt,bD,eX,bk,c1,fun k hk=>?_⟩;obtain⟨U,ev,_,nc⟩:=PF (l:=out[i].1) aI k hk;exact⟨U,ev,nc⟩
theorem AW{v:ByteArray}{vM:List fo}(ar:n<=12)(ai:c<=10)(h:ey w b cD n c W)(H:hN (pq (uM cD n).bY) eH=0)(ab:(hC eH).map (·.2)=some t)(aK:oK (uM cD n).bY 0 (eM t) t=some [([v],vM)]):Calls prog 25 #[M b,.string eH] W fun e aU=>e=.returned (.tuple #[.string v,.bool true])/\Hid (ey w b cD n (c+1) aU):=by
 have eo:Hid (Calls prog 18 #[M b,.string ⟨#[117]⟩,.string eH] W fun e aU=>∃a e7,e=.returned (.tuple #[.agg #[.slice a 1 e7,q 0],q 0])/\Hid (fW 0 aU (.slice a 1 e7) [([v],vM)]/\ey w b cD n (c+1) aU/\ki W aU)):=u (Yu ar ai h H ab aK);clear h H ab aK;go_enter func25,ntmps25;go_upto_region 2 with(first | (go_at_call 18;refine eo.d.mono ?_;rintro e S ⟨dc,gB,rfl,iH⟩));have b4:Hid (ey w b cD n (c+1) (S.alloc (.cells #[.slice dc 1 gB,q 0] 33))):=u (iH.d.2.1.below cT);have fA:=bH S (.cells #[.slice dc 1 gB,q 0] 33);have d0:=Z fA (i:=0) rfl;have ct:=iH.d.1.below ((Below.refl S.heap.size S).alloc ap (.cells #[.slice dc 1 gB,q 0] 33));obtain⟨g,aC,bA,bt,bD,rfl,bk,c1,hv⟩:=Yv ct (i:=0) (Nat.zero_lt_succ _);obtain⟨U,rfl,nc⟩:=hv 0 (Nat.zero_lt_succ _)
 have apZ:(S.alloc (.cells #[.slice (some ⟨g,0,none⟩) 1 gB,q 0] 33)).cell? ⟨g,0,none⟩=some (.slice (some ⟨U,0,none⟩) 1 bA):=bk;have ap0:(S.alloc (.cells #[.slice (some ⟨g,0,none⟩) 1 gB,q 0] 33)).cell? ⟨U,0,none⟩=some (.string v):=nc;clear hv ct bk c1 nc fA iH;generalize S.alloc (.cells #[.slice (some ⟨g,0,none⟩) 1 gB,q 0] 33)=lu at *;generalize S.heap.size=ap1 at *;go_wp2_with fail;go_ret2;exact⟨rfl,b4⟩
theorem ape(k:Nat)(l:List Int):a7 (iI (vK k l))=if k=8 then im (l.length:Int) else if l=[] then JG else if k=9 then im (l.foldl (· + ·) 0) else if k=10 then im (lh l) else im (mC l):=by
 unfold vK;split
 ·rfl
 ·split
  ·rfl
  ·split
   ·rfl
   ·split<;>rfl
theorem apx(cD:List (Int×Int))(k:Nat):eq cD (k+1)=if 10<=qZ (cD.getD k (0,0)).1 12 then eq cD k else eq cD k++[(qZ (cD.getD k (0,0)).1 12:Int)-3]:=by
 rw[eq];unfold gU cls;split
 ·rw[if_pos rfl,List.append_nil]
 ·rw[if_neg r];congr 2;omega
def ph(out:List l7)(i:Nat):Nat:=((out.take i).map fun C=>C.2.length).sum
theorem Yw(out:List l7)(i:Nat)(hi:i<out.length):ph out (i+1)=ph out i+out[i].2.length:=by unfold ph;rw[List.take_succ,fC hi,List.map_append,List.sum_append];simp
theorem apz(out:List l7)(i:Nat):ph out i<=(out.map fun C=>C.2.length).sum:=by
 unfold ph;conv=>rhs;rw[<-List.take_append_drop i out,List.map_append,List.sum_append]
 omega
theorem apA(ar:n<=12):(∀W c,c<=10->ey w b cD n c W->Calls prog 25 #[M b,.string JN] W fun e aU=>e=.returned (.tuple #[.string (im ((eq cD n).length:Int)),.bool true])/\Hid (ey w b cD n (c+1) aU))/\(∀W c,c<=10->ey w b cD n c W->Calls prog 25 #[M b,.string JO] W fun e aU=>e=.returned (.tuple #[.string (if eq cD n=[] then JG else im ((eq cD n).foldl (· + ·) 0)),.bool true])/\Hid (ey w b cD n (c+1) aU))/\(∀W c,c<=10->ey w b cD n c W->Calls prog 25 #[M b,.string JP] W fun e aU=>e=.returned (.tuple #[.string (im ((n*n:Nat):Int)),.bool true])/\Hid (ey w b cD n (c+1) aU))/\(∀W c,c<=10->ey w b cD n c W->Calls prog 25 #[M b,.string JQ] W fun e aU=>e=.returned (.tuple #[.string (if eq cD n=[] then JG else im (lh (eq cD n))),.bool true])/\Hid (ey w b cD n (c+1) aU))/\(∀W c,c<=10->ey w b cD n c W->Calls prog 25 #[M b,.string JS] W fun e aU=>e=.returned (.tuple #[.string (if eq cD n=[] then JG else im (mC (eq cD n))),.bool true])/\Hid (ey w b cD n (c+1) aU)):=by
 obtain⟨f8,Yx⟩:=C6 cD n 8 ar K;obtain⟨f9,a9⟩:=C6 cD n 9 ar K;obtain⟨f10,Yy⟩:=C6 cD n 10 ar K;obtain⟨f11,YA⟩:=C6 cD n 11 ar K;obtain⟨f7,jv⟩:=adx cD n ar;rw[ape] at Yx a9 Yy YA;exact⟨fun W c ai h=>AW ar ai h (ad3 _ _) ad1 Yx,fun W c ai h=>AW ar ai h (ahR _ _) ad5 a9,fun W c ai h=>AW ar ai h (ahT _ _) ahS jv,fun W c ai h=>AW ar ai h (anq _ _) ahU Yy,fun W c ai h=>AW ar ai h (ans _ _) anr YA⟩
theorem apB(cD:List (Int×Int))(n:Nat):(eq cD n=[])↔(eq cD n).length=0:=List.length_eq_zero_iff.symm
theorem apC(cD:List (Int×Int))(uN:Value)(w:World)(dh:Ground w)(hit:CY w uN cD):Calls prog 8 #[uN] w fun e w'=>e=.returned (.bool true)/\Below w.heap.size w w':=by
 have JY:min cD.length 12<=12:=Nat.min_le_right _ _;have ad4:min cD.length 12<=cD.length:=Nat.min_le_left _ _;have tV:Hid (Calls prog 16 #[uN] w fun e J=>∃b,e=.returned (M b)/\Hid (ey w b cD (min cD.length 12) 2 J)):=u ((YO cD uN w dh hit).mono (by
  rintro e J ⟨b,rfl,hk⟩;exact⟨b,rfl,u (ey.of hk)⟩))
 obtain⟨⟨a,af,rfl,JV⟩,b7,k7⟩:=hit;have aqf:=u JV;have AB:=u k7;clear JV k7 dh;have apD:=u (show min cD.length 12=cD.length\/min cD.length 12=12 by omega);generalize min cD.length 12=bv at *;obtain⟨out,JU,an,YB⟩:=ad0 cD bv JY;have ad2:out.length<=20001:=by obtain⟨JZ,J0⟩:=PG cD bv JY;obtain⟨ts,ab⟩:=Yt XA;obtain⟨ko,CS,_,_,iu⟩:=PA (Ys (AU cD bv) (bv+1)) ab;exact(XG (J0.B JZ) K K ko CS iu JU).1
 have YC:Hid (∀W b,ey w b cD bv 2 W->Calls prog 18 #[M b,.string ⟨#[117]⟩,.string ⟨#[115,101,108,101,99,116,32,97,46,121,44,32,99,111,117,110,116,40,42,41,44,32,99,111,117,110,116,40,97,46,120,41,32,102,114,111,109,32,116,32,97,32,103,114,111,117,112,32,98,121,32,97,46,121]⟩] W fun e aU=>∃a e7,e=.returned (.tuple #[.agg #[.slice a out.length e7,q 0],q 0])/\Hid (fW 0 aU (.slice a out.length e7) out/\ey w b cD bv 3 aU/\ki W aU)):=u (fun W b h=>Yu JY K h (Ys _ _) XA JU);clear JU;have e9:=u an;have ajK:=u YB;clear an YB;go_enter func8,ntmps8;go_upto_block 0 with(first | (go_at_call 16;refine tV.d.mono ?_;rintro e J ⟨b,rfl,H1⟩));clear tV
 go_cut [4,5,6,7,8,9,10] (fun Ya sv fl c9 hv gr lD wc=>Ya=q (bv:Int)/\sv=q ((eq cD bv).foldl (· + ·) 0)/\fl=q ((eq cD bv).length:Int)/\c9=q (lh (eq cD bv))/\hv=q (mC (eq cD bv))/\wc=J);case first=>
  as_aux_lemma=>
   go_wp2_with fail;go_loopg [4,5,6,7,8,9,10] (bv+1) (fun U Ya sv fl c9 hv gr lD wr=>∃k:Nat,k<=bv/\gr=q (k:Int)/\Ya=q (k:Int)/\sv=q ((eq cD k).foldl (· + ·) 0)/\fl=q ((eq cD k).length:Int)/\c9=q (lh (eq cD k))/\hv=q (mC (eq cD k))/\wr=J/\bv-k<U);case atStart=>exact⟨0,bu,rfl,rfl,rfl,rfl,rfl,rfl,rfl,r⟩
   case round=>
    obtain⟨k,hk,rfl,rfl,rfl,rfl,rfl,rfl,fr,ae⟩:=hrel;by_cases Ks:k<bv
    ·have jl:k<cD.length:=r;have JR:(k:Int)<(cD.length:Int):=r;have atE:(k:Int)<12:=r;obtain⟨g2,off,rfl,bC,iV⟩:∃g off,a=some ⟨g,off,none⟩/\g<w.heap.size/\∀i (h:i<cD.length),w.cell? ⟨g,off+i*2,none⟩=some (q cD[i].1)/\w.cell? ⟨g,off+i*2+1,none⟩=some (q cD[i].2):=by
      rcases aqf.d with h | h
      ·rw[h] at jl;exact absurd jl (fp _)
      ·exact h
     obtain⟨bz,cz,-,-⟩:=AB.d _ (ec jl);have ko:cD.getD k (0,0)=cD[k]:=by rw[List.getD_eq_getElem?_getD,fC jl];rfl
     have c4:=apx cD k;rw[ko] at c4;have nc:wr.cell? ⟨g2,off+k*2,none⟩=some (q cD[k].1):=by rw[fr];exact(H1.d.ho.cell (p:=⟨g2,off+k*2,none⟩) bC).trans (iV k jl).1
     have q8:IntKind.i64.wrap ((k:Int)+1)=(k:Int)+1:=by rw[IntKind.wrap_i64];omega
     have aqh:=u (fun aU=>X7 cD[k].1 12 aU bz cz K K);have gA:=(F7 (c:=cD[k].1) (n:=12) K).2;clear iV ko bz cz;generalize cD[k].1=q2 at *;generalize qZ q2 12=P at *;have ap2:IntKind.i64.wrap ((P:Int)-3)=(P:Int)-3:=by rw[IntKind.wrap_i64];omega
     have amX:=u fr;clear fr;by_cases aj:10<=P
     ·rw[if_pos aj] at c4;have bn:=u c4;have apE:(7:Int)<=(P:Int)-3:=r;clear c4;go_wp2_with (first | (go_at_call 22;refine(aqh.d _).mono ?_;rintro e ahQ ⟨rfl,rfl⟩));go_roundg (gk-1);case measure=>omega
      case rel=>exact⟨k+1,r,by go_num,by go_num,by rw[bn.d],by rw[bn.d],by rw[bn.d],by rw[bn.d],amX.d,r⟩
     ·rw[if_neg aj] at c4;have bn:Hid ((eq cD (k+1)).foldl (· + ·) 0=(eq cD k).foldl (· + ·) 0+((P:Int)-3)/\(eq cD (k+1)).length=(eq cD k).length+1/\lh (eq cD (k+1))=(if (eq cD k).length=0\/(P:Int)-3<lh (eq cD k) then (P:Int)-3 else lh (eq cD k))/\mC (eq cD (k+1))=if (eq cD k).length=0\/(P:Int)-3 > mC (eq cD k) then (P:Int)-3 else mC (eq cD k)):=u (by
       rw[c4];exact⟨by rw[List.foldl_append];rfl,by rw[cu];rfl,YI _ _,YJ _ _⟩)
      have cN:=Il cD k r;have bL:=BD cD k;clear c4;generalize (eq cD k).foldl (· + ·) 0=c0 at *;generalize (eq cD k).length=eF at *;generalize lh (eq cD k)=xq at *;generalize mC (eq cD k)=kj at *;have apE:¬(7:Int)<=(P:Int)-3:=r;have ap3:(P:Int)-3<7:=r;have agk:IntKind.i64.wrap (c0+((P:Int)-3))=c0+((P:Int)-3):=by rw[IntKind.wrap_i64];omega
      have uj:IntKind.i64.wrap ((eF:Int)+1)=(eF:Int)+1:=by rw[IntKind.wrap_i64];omega
      by_cases aY:eF=0
      ·subst aY;rw[if_pos (.inl rfl),if_pos (.inl rfl)] at bn;go_wp2_with (first | (go_at_call 22;refine(aqh.d _).mono ?_;rintro e ahQ ⟨rfl,rfl⟩));go_roundg (gk-1);case measure=>omega
       case rel=>exact⟨k+1,r,by go_num,by go_num,by rw[bn.d.1],by rw[bn.d.2.1];rfl,by rw[bn.d.2.2.1],by rw[bn.d.2.2.2],amX.d,r⟩
      ·have Gs:((eF:Int)==0)=false:=cV.2 r;have apF:¬(eF:Int)=0:=r;by_cases X:(P:Int)-3<xq<;>by_cases cf:kj<(P:Int)-3;all_goals
        have SZ:=bn.d;simp only[aY,X,cf,gt_iff_lt,false_or,or_true,if_true,if_false,or_false,or_self] at SZ;have hT:=u SZ;clear SZ;go_wp2_with (first | (go_at_call 22;refine(aqh.d _).mono ?_;rintro e ahQ ⟨rfl,rfl⟩));go_roundg (gk-1);case measure=>omega
        case rel=>exact⟨k+1,r,by go_num,by go_num,by rw[hT.d.1],by rw[hT.d.2.1];rfl,by rw[hT.d.2.2.1],by rw[hT.d.2.2.2],amX.d,r⟩
    ·have xC:k=bv:=r;subst xC;have amX:=u fr;clear fr;rcases apD.d with NN | NN
     ·have vq:¬(k:Int)<(cD.length:Int):=r;have Y0:(cD.length:Int)<=(k:Int):=r;clear NN;go_wp2_with fail;go_meet;case rel=>exact⟨rfl,rfl,rfl,rfl,rfl,amX.d⟩
     ·have Y0:¬(k:Int)<12:=r;have apy:(12:Int)<=(k:Int):=r;clear NN;by_cases vq:(k:Int)<(cD.length:Int)
      ·go_wp2_with fail;go_meet;case rel=>exact⟨rfl,rfl,rfl,rfl,rfl,amX.d⟩
      ·have ap4:(cD.length:Int)<=(k:Int):=r;go_wp2_with fail;go_meet;case rel=>exact⟨rfl,rfl,rfl,rfl,rfl,amX.d⟩
 case rest=>
  obtain⟨rfl,rfl,rfl,rfl,rfl,uj⟩:=hcut;subst uj;obtain⟨e8,i8,YD,asj,asl⟩:=apA (w:=w) (b:=b) (cD:=cD) (n:=bv) JY;simp only[apB] at i8 asj asl;have cN:=Il cD bv r;have bL:=BD cD bv;have fS:=YZ cD bv;generalize (eq cD bv).foldl (· + ·) 0=c0 at *;generalize (eq cD bv).length=eF at *;generalize lh (eq cD bv)=xq at *;generalize mC (eq cD bv)=kj at *;have agP:Hid (∀W,ey w b cD bv 3 W->Calls prog 25 #[M b,.string ⟨#[115,101,108,101,99,116,32,99,111,117,110,116,40,97,46,120,41,32,102,114,111,109,32,116,32,97]⟩] W fun e aU=>e=.returned (.tuple #[.string (im (eF:Int)),.bool true])/\Hid (ey w b cD bv 4 aU)):=u (fun W h=>e8 W 3 K h)
  have apG:Hid (∀W,ey w b cD bv 4 W->Calls prog 25 #[M b,.string ⟨#[115,101,108,101,99,116,32,115,117,109,40,97,46,120,41,32,102,114,111,109,32,116,32,97]⟩] W fun e aU=>e=.returned (.tuple #[.string (if eF=0 then JG else im c0),.bool true])/\Hid (ey w b cD bv 5 aU)):=u (fun W h=>i8 W 4 K h);have apH:Hid (∀W,ey w b cD bv 5 W->Calls prog 25 #[M b,.string ⟨#[115,101,108,101,99,116,32,99,111,117,110,116,40,42,41,32,102,114,111,109,32,116,32,97,44,32,116,32,98]⟩] W fun e aU=>e=.returned (.tuple #[.string (im ((bv*bv:Nat):Int)),.bool true])/\Hid (ey w b cD bv 6 aU)):=u (fun W h=>YD W 5 K h)
  have apI:Hid (∀W,ey w b cD bv 6 W->Calls prog 25 #[M b,.string ⟨#[115,101,108,101,99,116,32,109,105,110,40,97,46,120,41,32,102,114,111,109,32,116,32,97]⟩] W fun e aU=>e=.returned (.tuple #[.string (if eF=0 then JG else im xq),.bool true])/\Hid (ey w b cD bv 7 aU)):=u (fun W h=>asj W 6 K h);have apJ:Hid (∀W,ey w b cD bv 7 W->Calls prog 25 #[M b,.string ⟨#[115,101,108,101,99,116,32,109,97,120,40,97,46,120,41,32,102,114,111,109,32,116,32,97]⟩] W fun e aU=>e=.returned (.tuple #[.string (if eF=0 then JG else im kj),.bool true])/\Hid (ey w b cD bv 8 aU)):=u (fun W h=>asl W 7 K h);clear e8 i8 YD asj asl;go_upto_block 2 with(first | (go_at_call 18;refine(YC.d _ _ H1.d).mono ?_;rintro e S ⟨dc,gB,rfl,iH⟩))
  have apK:Hid (ey w b cD bv 3 (S.alloc (.cells #[.slice dc out.length gB,q 0] 33))):=u (iH.d.2.1.below cT);have fA:=bH S (.cells #[.slice dc out.length gB,q 0] 33);have d0:=Z fA (i:=0) rfl;have xO:=u (iH.d.1.below ((Below.refl S.heap.size S).alloc ap (.cells #[.slice dc out.length gB,q 0] 33)));clear fA iH H1 YC;generalize S.alloc (.cells #[.slice dc out.length gB,q 0] 33)=W at *;generalize S.heap.size=Gb at *;go_cut [13,14] (fun kr uN wc=>kr=q (bv:Int)/\Hid (ey w b cD bv 3 wc));case first=>
   as_aux_lemma=>
    go_wp2_with fail;go_loopg [13,14] (out.length+1) (fun U kr uN wr=>∃i:Nat,i<=out.length/\uN=q (i:Int)/\kr=q (ph out i:Int)/\Hid (Below W.heap.size W wr)/\out.length-i<U);case atStart=>exact⟨0,bu,rfl,rfl,u (Below.refl _ _),r⟩
    case round=>
     obtain⟨i,hi,rfl,rfl,bw,ae⟩:=hrel;have ce:=(bw.d.cell (p:=⟨Gb,0,none⟩) (World.block_lt_of_cell? W _ d0)).trans d0;by_cases aD:i<out.length
     ·have cL:(i:Int)<(out.length:Int):=r;obtain⟨g,aC,bA,bt,bD,rfl,bk,c1,hv⟩:=Yv xO.d aD;obtain⟨y,z,j0⟩:=e9.d _ (ec aD);have apL:=u (Yw out i aD);have iT:=apz out (i+1);rw[ajK.d,Yw out i aD] at iT;have ab:out[i].1.length=3:=by rw[j0];rfl
      obtain⟨q1,rfl,s1⟩:=hv 1 r;have Wi:out[i].1[1]'r=im ((out[i].2.length:Nat):Int):=by simp only[j0];rfl
      rw[Wi] at s1;rw[ab] at bk;clear hv j0 Wi;generalize out[i].2.length=q0 at *;have uu:Hid (∀aU,Below W.heap.size W aU->aU.cell? ⟨Gb,0,none⟩=some (.slice (some ⟨g,0,none⟩) out.length gB)/\aU.cell? ⟨g,i*2,none⟩=some (.slice (some ⟨q1,0,none⟩) 3 bA)/\aU.cell? ⟨g,i*2+1,none⟩=some (.slice bt q0 bD)/\aU.cell? ⟨q1,1,none⟩=some (.string (im (q0:Int)))):=u (fun aU A=>⟨(A.cell (World.block_lt_of_cell? W _ d0)).trans d0,(A.cell (World.block_lt_of_cell? W _ bk)).trans bk,(A.cell (World.block_lt_of_cell? W _ c1)).trans c1,(A.cell (World.block_lt_of_cell? W _ s1)).trans s1⟩)
      have vS:Hid (Calls prog 21 #[q (q0:Int)] wr.drew fun x aA=>x=.returned (.string (im (q0:Int)))/\(aA.cell? ⟨Gb,0,none⟩=some (.slice (some ⟨g,0,none⟩) out.length gB)/\aA.cell? ⟨g,i*2,none⟩=some (.slice (some ⟨q1,0,none⟩) 3 bA)/\aA.cell? ⟨g,i*2+1,none⟩=some (.slice bt q0 bD)/\aA.cell? ⟨q1,1,none⟩=some (.string (im (q0:Int))))/\Hid (Below W.heap.size W aA)):=u ((JF (q0:Int) wr.drew r r).mono (by
       rintro x aA ⟨rfl,A⟩;have bg:Below W.heap.size W aA:=Below.fK bw.d (Below.fK (show Below wr.heap.size wr wr.drew from⟨rfl,rfl,rfl,ap,fun _ _=>rfl⟩) A);exact⟨rfl,uu.d aA bg,u bg⟩))
      obtain⟨f0,f1,f2,f3⟩:=uu.d wr bw.d;have aej:IntKind.i64.wrap ((i:Int)+1)=(i:Int)+1:=by rw[IntKind.wrap_i64];omega
      have tN:IntKind.i64.wrap ((ph out i:Int)+(q0:Int))=(ph out i:Int)+(q0:Int):=by rw[IntKind.wrap_i64];omega
      generalize ph out i=ap5 at *;generalize im (q0:Int)=apM at *;clear bk c1 s1 ce iT ab;go_upto_region 28 with fail;go_region_held3 (fun w'=>w'.cell? ⟨Gb,0,none⟩=some (.slice (some ⟨g,0,none⟩) out.length gB)/\w'.cell? ⟨g,i*2,none⟩=some (.slice (some ⟨q1,0,none⟩) 3 bA)/\w'.cell? ⟨g,i*2+1,none⟩=some (.slice bt q0 bD)/\w'.cell? ⟨q1,1,none⟩=some (.string apM)) (go_keep) (first | (go_at_call 21;refine vS.d.mono ?_;rintro x aA ⟨rfl,⟨a0,bq,a2,a3⟩,jd⟩));go_wp2_with fail;go_roundg (gk-1);case measure=>omega
      case rel=>exact⟨i+1,r,by go_num,congrArg (Value.int .i64) (by rw[apL.d];omega),jd,r⟩
     ·have LV:i=out.length:=r;subst LV;have bj:Hid (ph out out.length=bv):=u (by unfold ph;rw[List.take_length];exact ajK.d);have cL:¬(out.length:Int)<(out.length:Int):=r;go_wp2_with fail;go_meet;case rel=>exact⟨congrArg (Value.int .i64) (by rw[bj.d]),u (apK.d.below bw.d)⟩
  case rest=>
   obtain⟨rfl,apN⟩:=hcut;have aja:Hid (∀W,Calls prog 21 #[q c0] W fun e w'=>e=.returned (.string (im c0))/\Hid (Below W.heap.size W w')):=u (fun W=>(JF c0 W r r).mono (fun e w' h=>⟨h.1,u h.2⟩));have ET:Hid (∀W,Calls prog 21 #[q xq] W fun e w'=>e=.returned (.string (im xq))/\Hid (Below W.heap.size W w')):=u (fun W=>(JF xq W r r).mono (fun e w' h=>⟨h.1,u h.2⟩));have YE:Hid (∀W,Calls prog 21 #[q kj] W fun e w'=>e=.returned (.string (im kj))/\Hid (Below W.heap.size W w')):=u (fun W=>(JF kj W r r).mono (fun e w' h=>⟨h.1,u h.2⟩));have YF:Hid (∀W,Calls prog 21 #[q (eF:Int)] W fun e w'=>e=.returned (.string (im (eF:Int)))/\Hid (Below W.heap.size W w')):=u (fun W=>(JF (eF:Int) W r r).mono (fun e w' h=>⟨h.1,u h.2⟩))
   have ap6:bv*bv<=12*12:=Nat.mul_le_mul JY JY;have YG:Hid (∀W,Calls prog 21 #[q ((bv*bv:Nat):Int)] W fun e w'=>e=.returned (.string (im ((bv*bv:Nat):Int)))/\Hid (Below W.heap.size W w')):=u (fun W=>(JF ((bv*bv:Nat):Int) W r r).mono (fun e w' h=>⟨h.1,u h.2⟩));have aiv:IntKind.i64.wrap ((bv:Int)*(bv:Int))=((bv*bv:Nat):Int):=by rw[IntKind.wrap_i64,<-Int.natCast_mul];omega
   go_upto_region 36 with(first
    | (go_at_call 25;refine(apJ.d mL apO.d).mono ?_;rintro e zx ⟨rfl,apP⟩)
    | (go_at_call 25;refine(apI.d cw apQ.d).mono ?_;rintro e mL ⟨rfl,apO⟩)
    | (go_at_call 25;refine(apH.d bh apR.d).mono ?_;rintro e cw ⟨rfl,apQ⟩)
    | (go_at_call 25;refine(apG.d bI apS.d).mono ?_;rintro e bh ⟨rfl,apR⟩)
    | (go_at_call 25;refine(agP.d _ apN.d).mono ?_;rintro e bI ⟨rfl,apS⟩))
   have YH:=u apP.d.ho;by_cases aY:eF=0
   ·simp only[if_pos aY,show JG=(⟨#[110,117,108,108]⟩:ByteArray) from rfl];have Gs:((eF:Int)==0)=true:=by rw[aY];rfl
    clear aY;go_wp2_with (first
     | (go_at_call 21;refine(YG.d DL).mono ?_;rintro e apT ⟨rfl,RY⟩)
     | (go_at_call 21;refine(YF.d tI).mono ?_;rintro e DL ⟨rfl,KR⟩)
     | (go_at_call 21;refine(YE.d JW).mono ?_;rintro e tI ⟨rfl,uo⟩)
     | (go_at_call 21;refine(ET.d uZ).mono ?_;rintro e JW ⟨rfl,JX⟩)
     | (go_at_call 21;refine(aja.d zx).mono ?_;rintro e uZ ⟨rfl,uY⟩))
    go_ret;exact⟨rfl,Below.fK YH.d (Below.fK uY.d (Below.fK JX.d (Below.fK uo.d (Below.fK KR.d RY.d))))⟩
   ·have Gs:((eF:Int)==0)=false:=cV.2 r;have apF:¬(eF:Int)=0:=r;simp only[if_neg aY];go_wp2_with (first
     | (go_at_call 21;refine(YG.d DL).mono ?_;rintro e apT ⟨rfl,RY⟩)
     | (go_at_call 21;refine(YF.d tI).mono ?_;rintro e DL ⟨rfl,KR⟩)
     | (go_at_call 21;refine(YE.d JW).mono ?_;rintro e tI ⟨rfl,uo⟩)
     | (go_at_call 21;refine(ET.d uZ).mono ?_;rintro e JW ⟨rfl,JX⟩)
     | (go_at_call 21;refine(aja.d zx).mono ?_;rintro e uZ ⟨rfl,uY⟩))
    go_ret;exact⟨rfl,Below.fK YH.d (Below.fK uY.d (Below.fK JX.d (Below.fK uo.d (Below.fK KR.d RY.d))))⟩
end Go.Proofs.YtbkeflgafjnefaaGreatDoor
