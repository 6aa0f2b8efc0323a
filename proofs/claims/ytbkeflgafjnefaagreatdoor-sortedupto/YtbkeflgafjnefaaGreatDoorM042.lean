import Derived.Test.YtbkeflgafjnefaaGreatDoorM040
import Derived.Test.YtbkeflgafjnefaaGreatDoorM041
set_option maxHeartbeats 20000000
set_option maxRecDepth 100000
set_option linter.all false
namespace Go.Proofs.YtbkeflgafjnefaaGreatDoor
open Tryz
open bS
variable{s:ni}{t:ByteArray}{W aU w:World}{a:Option Addr}{N b c n:Nat}{F:Nat->Prop}{v:Value}{B:List bG}{m O:Int}{wh:aL}{cD:List (Int×Int)}
def fL:ByteArray:=⟨#[116]⟩
def hS:ByteArray:=⟨#[117]⟩
def F8:ByteArray:=⟨#[120,58,105,44,121,58,116]⟩
def CU:ByteArray:=⟨#[115,101,108,101,99,116,32,97,46,120,44,32,97,46,121,32,102,114,111,109,32,116,32,97]⟩
def CV:ByteArray:=⟨#[115,101,108,101,99,116,32,97,46,120,32,102,114,111,109,32,116,32,97]⟩
def mA:List (ByteArray×Nat):=[(⟨#[120]⟩,1),(⟨#[121]⟩,2)]
theorem PE:lL Eb fL F8=(0,⟨[⟨fL,mA,[],0⟩],0⟩):=ax
theorem Yb:mF ⟨[⟨fL,mA,[],0⟩],0⟩ fL [⟨#[55]⟩,⟨#[39,113,39]⟩]=(1,0,⟨[⟨fL,mA,[(1,[⟨1,7,[]⟩,⟨2,0,[113]⟩])],1⟩],0⟩):=ax
theorem Yc:pz ⟨[⟨fL,mA,[(1,[⟨1,7,[]⟩,⟨2,0,[113]⟩])],1⟩],0⟩ fL 1=(0,⟨[⟨fL,mA,[],1⟩],0⟩):=ax
def t1:aL:=((hC CU).getD ([],.nil)).2
def t2:aL:=((hC CV).getD ([],.nil)).2
theorem aoR:hC CU=some (((hC CU).getD ([],.nil)).1,t1):=ax
theorem aoS:hC CV=some (((hC CV).getD ([],.nil)).1,t2):=ax
def r9:List bG:=[⟨fL,mA,[(1,[⟨1,7,[]⟩,⟨2,0,[113]⟩])],1⟩]
def vI:List bG:=[⟨fL,mA,[],1⟩]
theorem aoT:hN (pq r9) CU=0:=ax
theorem aoU:hN (pq vI) CV=0:=ax
theorem aoV:(bR r9 0 t1 [] nG).2.1=[([⟨1,7,[]⟩,⟨2,0,[113]⟩],[[(1,[⟨1,7,[]⟩,⟨2,0,[113]⟩])]])]:=ax
theorem aoW:(bR r9 0 t1 [] nG).2.2.dE=false:=ax
theorem aoX:(bR vI 0 t2 [] nG).2.1=[]:=ax
theorem aoY:(bR vI 0 t2 [] nG).2.2.dE=false:=ax
theorem aoZ:iO (eM t1) [[(1,[⟨1,7,[]⟩,⟨2,0,[113]⟩])]] (eM t1).length=[(fL,1)]:=ax
theorem Yd{α:Type}(ew:α->α->Int)(a:α):kM ew [a]=[a]:=by unfold kM;exact List.mergeSort_singleton a
theorem Ye{α:Type}(ew:α->α->Int):kM ew ([]:List α)=[]:=by unfold kM;exact List.mergeSort_nil
theorem ao0(t:fo):p7 [t]=[t]:=rfl
theorem Yf(t:fo):hj [[t]]=[t]:=by unfold hj;rw[show([[t]]:List (List fo)).flatten=[t] from rfl,Yd,ao0]
def JH:List l7:=[([⟨#[55]⟩,⟨#[39,113,39]⟩],[(fL,1)])]
theorem ao1:oK r9 0 (eM t1) t1=some JH:=by unfold oK;rw[aoW,aoV,if_neg K,List.map_cons,List.map_nil];unfold lG;simp only[];rw[aoZ,Yf,Yd];kernel_rfl
theorem ao2:oK vI 0 (eM t2) t2=some []:=by unfold oK;rw[aoY,aoX,if_neg K,List.map_nil,Ye];rfl
def JI:ni:=⟨⟨r9,0⟩,⟨[],[],0⟩,[],0⟩
def JJ:ni:=⟨⟨vI,0⟩,nh hS 0 [(fL,1)] ⟨[],[],0⟩,[],0⟩
def AT:ni:=⟨⟨vI,0⟩,nh hS 0 [] (nh hS 0 [(fL,1)] ⟨[],[],0⟩),[],0⟩
theorem Yg{f:qh->n9->Bool}{cU eH:ByteArray}{ts:List ByteArray}{t:aL}{out:List l7}(h1:¬(cU.data.toList=[]\/jf cU.data.toList=false))(H:hN (pq s.ck.bY) eH=0)(ab:hC eH=some (ts,t))(aK:oK s.ck.bY s.ck.dS (eM t) t=some out)(cO:s.c7.count<60)(cE:s.nj=[]):gE f s cU eH=⟨0,0,out,{s with c7:=nh cU s.ck.dS (hj (out.map (·.2))) s.c7}⟩:=by unfold gE;rw[if_neg h1,if_neg (by rw[H];exact fun h=>h rfl),ab];simp only[];rw[aK];simp only[];rw[if_neg r,cE,if_neg (fun h=>h rfl)]
theorem ao3:hj []=[]:=by unfold hj;rw[show([]:List (List fo)).flatten=[] from rfl,Ye];rfl
theorem ao4(f:qh->n9->Bool):gE f JI hS CU=⟨0,0,JH,⟨⟨r9,0⟩,nh hS 0 [(fL,1)] ⟨[],[],0⟩,[],0⟩⟩:=by have h:=Yg (f:=f) (s:=JI) (cU:=hS) K aoT aoR ao1 K rfl;have hu:hj (JH.map (·.2))=[(fL,1)]:=Yf _;rw[hu] at h;exact h
theorem ao5(f:qh->n9->Bool):gE f JJ hS CV=⟨0,0,[],AT⟩:=by have h:=Yg (f:=f) (s:=JJ) (cU:=hS) K aoU aoS ao2 K rfl;rw[show(([]:List l7).map (·.2))=[] from rfl,ao3] at h;exact h
open Go.RowKit Go.Sort Go.Shelf
theorem PF{lo:Nat}{l:List ByteArray}(h:w.ownsRow lo 9 1 (.slice a n c) l.length (l.map Value.string))(i:Nat)(hi:i<l.length):∃g,a=some ⟨g,0,none⟩/\g<w.heap.size/\w.cell? ⟨g,i,none⟩=some (.string l[i]):=by obtain⟨nB,e7,e⟩:=cG h;injection e with Y am bm;subst Y am bm;obtain⟨g,e,R⟩:=vA h r;subst e;have bk:=h.cells rfl i (.string l[i]) (by rw[List.getElem?_map,fC hi];rfl);rw[Addr.add_lit,Nat.zero_add] at bk;exact⟨g,rfl,R,bk⟩
theorem F9{t:TypeId}(h:t=44\/t=9\/t=47\/t=33):¬oM t:=by unfold oM;rcases h with rfl | rfl | rfl | rfl<;>decide
structure ki (W aU:World):Prop where
 size:W.heap.size<=aU.heap.size
 other:∀(k:Nat) (cs:Array Value) (t:TypeId) (m:Nat×Nat),W.heap[k]?=some (.cells cs t m)->¬oM t->aU.heap[k]?=some (.cells cs t m)
theorem ki.of(h:da F W aU)(hF:∀k,F k->oN W k/\8<=k):ki W aU:=⟨h.size,fun k cs t m e ar=>by
 refine(h.block k (jq e) (fun hk=>?_)).trans e;obtain⟨⟨fU,e6,pQ,bo,Es⟩,_⟩:=hF k hk;rw[e] at bo;injection bo with bo;injection bo with _ bo;exact ar (bo▸Es)⟩
theorem ki.below(h:Below W.heap.size W aU):ki W aU:=⟨h.size,fun _ _ _ _ e _=>Below.a8 h e⟩
theorem ki.trans{a b c:World}(h:ki a b)(g:ki b c):ki a c:=⟨bX h.size g.size,fun k cs t m e ar=>g.other k cs t m (h.other k cs t m e ar) ar⟩
theorem ki.row(h:ki W aU){base:Nat}{e:TypeId}{size:Nat}{xs:List Value}(ar:¬oM e)(ag:W.ownsRow base e size v n xs):aU.ownsRow base e size v n xs:=by
 refine⟨ag.1,?_⟩;rcases ag.2 with aa | ⟨g,af,ay,rfl,X,en,rest⟩
 ·exact .inl aa
 ·exact .inr ⟨g,af,ay,rfl,X,h.other _ _ _ _ en ar,rest⟩
theorem ki.out{W aU:World}(h:ki W aU){v:Value}{out:List l7}(ct:fW 0 W v out):fW 0 aU v out:=by obtain⟨bE,h1,H,ab⟩:=ct;exact⟨bE,h.row (F9 (.inl rfl)) h1,H,fun i a b=>⟨h.row (F9 (.inr (.inl rfl))) (ab i a b).1,h.row (F9 (.inr (.inr (.inl rfl)))) (ab i a b).2⟩⟩
structure gF (w:World) (b:Nat) (s:ni) (W:World):Prop where
 own:∃F,nH F W b s/\∀k,F k->w.heap.size<=k
 ho:Below w.heap.size w W
 xo:Ground W
theorem gF.below{w W aU:World}{b:Nat}{s:ni}(h:gF w b s W)(A:Below W.heap.size W aU):gF w b s aU:=by obtain⟨⟨F,h1,H⟩,ab,aK⟩:=h;exact⟨⟨F,h1.aside (G:=fun _=>False) ⟨A.os,A.tape,A.output,A.size,fun k hk _=>A.block k hk⟩ (fun _ _=>id),H⟩,Below.fK ab A,aK.below A⟩
theorem gF.call{fu:ni}(aw:∀k,F k->oN W k/\8<=k)(hF:∀k,F k->w.heap.size<=k)(A:Below w.heap.size w W)(R:Ground W)(bi:vE F W b fu aU):gF w b fu aU/\ki W aU:=by
 obtain⟨F',aI,aZ,a6⟩:=bi;refine⟨⟨⟨F',aI,fun U ae=>?_⟩,⟨a6.os.trans A.os,a6.tape.trans A.tape,a6.output.trans A.output,bX A.size a6.size,fun U ae=>?_⟩,R.anx a6 (fun U ae=>(aw U ae).2)⟩,ki.of a6 aw⟩
 ·rcases aZ U ae with h | h
  ·exact hF U h
  ·exact bX A.size h
 ·exact(a6.block U (e0 ae A.size) (fun x=>by have:=hF U x;omega)).trans (A.block U ae)
theorem ao6(h:gF w b s W)(ok:hA N s.ck)(name bl:ByteArray)(ar:name.size<=2000000)(ai:bl.size<=2000000):Calls prog 38 #[M b,.string name,.string bl] W fun e aU=>e=.returned (q ((lL s.ck name bl).1:Int))/\Hid (gF w b {s with ck:=(lL s.ck name bl).2} aU/\ki W aU):=by obtain⟨⟨F,h1,H⟩,ab,aK⟩:=h;refine(ant h1 aK.uJ.js ok aK.uJ name bl ar ai).mono ?_;rintro e aU ⟨rfl,bi⟩;exact⟨rfl,u (gF.call h1.1 H ab aK bi)⟩
theorem Yh(h:gF w b s W)(ok:hA N s.ck)(cS:N<=1000000000)(name:ByteArray)(U af:Nat)(ba:List ByteArray)(hv:zG W U ba)(ae:U<W.heap.size)(X:ba.length<=2000000)(hs:∀t∈ba,t.size<=2000000):Calls prog 39 #[M b,.string name,.slice (some ⟨U,0,none⟩) ba.length af] W fun e aU=>e=.returned (.tuple #[q ((mF s.ck name ba).1:Int),q ((mF s.ck name ba).2.1:Int)])/\Hid (gF w b {s with ck:=(mF s.ck name ba).2.2} aU/\ki W aU):=by obtain⟨⟨F,h1,H⟩,ab,aK⟩:=h;refine(anu h1 aK.uJ.js ok cS name U af ba hv ae X hs).mono ?_;rintro e aU ⟨rfl,bi⟩;exact⟨rfl,u (gF.call h1.1 H ab aK bi)⟩
theorem ao7(h:gF w b s W)(ok:hA N s.ck)(name:ByteArray)(m:Int):Calls prog 40 #[M b,.string name,q m] W fun e aU=>e=.returned (q ((pz s.ck name m).1:Int))/\Hid (gF w b {s with ck:=(pz s.ck name m).2} aU/\ki W aU):=by obtain⟨⟨F,h1,H⟩,ab,aK⟩:=h;refine(anv h1 aK.uJ.js ok name m).mono ?_;rintro e aU ⟨rfl,bi⟩;exact⟨rfl,u (gF.call h1.1 H ab aK bi)⟩
theorem Yi(h:gF w b s W)(ok:hA N s.ck)(fit:lw s.ck)(cU eH:ByteArray)(hu:cU.size<=1000000)(oE:s.c7.log.length<=10000)(kv:s.c7.ng.length<=800000)(wq:s.c7.count<=1000000)(aj:s.nj=[]):Calls prog 18 #[M b,.string cU,.string eH] W fun e aU=>∃a n c,e=.returned (.tuple #[.agg #[.slice a n c,q ((gE (fun _ _=>false) s cU eH).Jt:Int)],q ((gE (fun _ _=>false) s cU eH).qk:Int)])/\Hid (fW 0 aU (.slice a n c) (gE (fun _ _=>false) s cU eH).out/\gF w b (gE (fun _ _=>false) s cU eH).FX aU/\ki W aU):=by
 obtain⟨⟨F,h1,H⟩,ab,aK⟩:=h;refine(XV (fun _ _=>false) h1 ok fit aK cU eH hu oE kv wq (by rw[aj];exact bu) (fun p AK=>by rw[aj] at AK;cases AK)).mono ?_;rintro e aU ⟨a,n,c,rfl,ct,bi⟩;exact⟨a,n,c,rfl,u ⟨ct,gF.call h1.1 H ab aK bi⟩⟩
theorem ao8(w:World)(R:Ground w):Calls prog 37 #[] w fun e W=>∃b,e=.returned (M b)/\Hid (gF w b Js W):=by refine(anw w R.uJ.js).mono ?_;rintro e W ⟨k,F,rfl,h1,H,ab⟩;exact⟨k,rfl,u ⟨⟨F,h1,H⟩,ab,R.below ab⟩⟩
def JK(k:Nat):ByteArray:=if 10<=k then JG else im ((k:Int)-3)
def JL(k:Nat):ByteArray:=if k=5 then JG else a7 (39::(([97,98,99,100,101]:List UInt8).take k++[39]))
theorem ao9:∀k,k<12->(fy (JK k).data.toList).2=true/\((fy (JK k).data.toList).1.kind=0\/(fy (JK k).data.toList).1.kind=1)/\(JK k).size<=30:=by decide +kernel
theorem apa:∀k,k<6->(fy (JL k).data.toList).2=true/\((fy (JL k).data.toList).1.kind=0\/(fy (JL k).data.toList).1.kind=2)/\(JL k).size<=30:=by decide +kernel
def CW(c:Int):al:=(fy (nk c).data.toList).1
def CX(c:Int):al:=(fy (nl c).data.toList).1
theorem Yj(c:Int):bS.valOf (nk c)=some (CW c)/\((CW c).kind=0\/(CW c).kind=1)/\(nk c).size<=30:=by have h:=ao9 (qZ c 12) (F7 K).2;refine⟨?_,h.2.1,h.2.2⟩;unfold bS.valOf;have h1:(fy (nk c).data.toList).2=true:=h.1;rw[h1,if_pos rfl];rfl
theorem Yk(c:Int):bS.valOf (nl c)=some (CX c)/\((CX c).kind=0\/(CX c).kind=2)/\(nl c).size<=30:=by have h:=apa (qZ c 6) (F7 K).2;refine⟨?_,h.2.1,h.2.2⟩;unfold bS.valOf;have h1:(fy (nl c).data.toList).2=true:=h.1;rw[h1,if_pos rfl];rfl
def AU(cD:List (Int×Int)):Nat->List (Nat×List al)
 | 0=>[]
 | k+1=>AU cD k++[(k+2,[CW (cD.getD k (0,0)).1,CX (cD.getD k (0,0)).2])]
theorem Yl(cD:List (Int×Int)):∀k,(AU cD k).length=k
 | 0=>rfl
 | k+1=>by rw[AU,cu,Yl cD k];rfl
def uM(cD:List (Int×Int))(k:Nat):hG:=⟨[⟨fL,mA,AU cD k,k+1⟩],0⟩
def mB(cD:List (Int×Int))(k:Nat):ni:=⟨uM cD k,AT.c7,[],0⟩
theorem Ym(cD:List (Int×Int))(k:Nat)(hk:k<12):mF (uM cD k) fL [nk (cD.getD k (0,0)).1,nl (cD.getD k (0,0)).2]=(k+2,0,uM cD (k+1)):=by
 have av:fD (uM cD k).bY fL=some 0:=by unfold uM fD;rfl
 have bi:od ⟨fL,mA,AU cD k,k+1⟩ [nk (cD.getD k (0,0)).1,nl (cD.getD k (0,0)).2]=(k+2,0,⟨fL,mA,AU cD (k+1),k+2⟩):=by
  obtain⟨bM,b9,_⟩:=Yj (cD.getD k (0,0)).1;obtain⟨J,S,_⟩:=Yk (cD.getD k (0,0)).2;unfold od;rw[if_pos (show [nk (cD.getD k (0,0)).1,nl (cD.getD k (0,0)).2].length=mA.length from rfl)];have ak:iq bS.valOf [nk (cD.getD k (0,0)).1,nl (cD.getD k (0,0)).2]=some [CW (cD.getD k (0,0)).1,CX (cD.getD k (0,0)).2]:=by rw[iq,bM,iq,J,iq];rfl
  rw[ak];have au:q7 [CW (cD.getD k (0,0)).1,CX (cD.getD k (0,0)).2] mA=true:=by unfold mA;rw[q7,q7,q7];rcases b9 with e | e<;>rcases S with bo | bo<;>rw[e,bo]<;>rfl
  simp only[];rw[au,if_pos rfl,if_neg (by rw[Yl];omega)];rfl
 rw[Ht av (by show 0<1;omega)];have R:(uM cD k).bY[0]'(by show 0<1;omega)=⟨fL,mA,AU cD k,k+1⟩:=rfl;rw[R,bi];rfl
theorem PG(cD:List (Int×Int)):∀k,k<=12->hA (k+1) (uM cD k)/\lw (uM cD k)
 | 0,_=>by
  refine⟨⟨by show 1<=6;omega,fun t au=>?_,by show(0:Int)<=0;omega,by show(0:Int)<=1000000000000;omega⟩,fun t au=>?_⟩
  ·obtain rfl:=ic (show t∈[_] from au);exact⟨by show 1<=2;omega,by show 2<=4;omega,bu,ap,fun c ai=>by
    have k4:c∈mA:=ai;unfold mA at k4;rcases List.mem_cons.1 k4 with rfl | k4
    ·exact .inl rfl
    ·obtain rfl:=ic k4;exact .inr rfl⟩
  ·obtain rfl:=ic (show t∈[_] from au);exact⟨fun C ag=>absurd ag (List.not_mem_nil),(show iP fL.data.toList=true by decide),fun C ag=>absurd ag (List.not_mem_nil)⟩
 | k+1,h=>by obtain⟨h1,H⟩:=PG cD k r;have e:=Ym cD k r;have ab:=h1.insert fL [nk (cD.getD k (0,0)).1,nl (cD.getD k (0,0)).2];have aK:=H.insert fL [nk (cD.getD k (0,0)).1,nl (cD.getD k (0,0)).2];rw[e] at ab aK;exact⟨ab,aK⟩
def CY(w:World)(v:Value)(l:List (Int×Int)):Prop:=(∃a af,v=.slice a l.length af/\(l=[]\/∃g off,a=some ⟨g,off,none⟩/\g<w.heap.size/\∀i (h:i<l.length),w.cell? ⟨g,off+i*2,none⟩=some (q l[i].1)/\w.cell? ⟨g,off+i*2+1,none⟩=some (q l[i].2)))/\l.length<=1048576/\∀x∈l,-9223372036854775808<=x.1/\x.1<=9223372036854775807/\-9223372036854775808<=x.2/\x.2<=9223372036854775807
theorem YL:hA 5 (⟨[⟨fL,mA,[],0⟩],0⟩:hG):=by have:=(hA.zero 5).create fL F8;rw[PE] at this;exact this
theorem Gc:hA 6 (⟨r9,0⟩:hG)/\lw (⟨r9,0⟩:hG):=by have h1:=YL.insert fL [⟨#[55]⟩,⟨#[39,113,39]⟩];have H:=(lw.zero.create fL F8).insert fL [⟨#[55]⟩,⟨#[39,113,39]⟩];rw[PE] at H;rw[Yb] at h1 H;exact⟨h1,H⟩
theorem YM:hA 6 (⟨vI,0⟩:hG)/\lw (⟨vI,0⟩:hG):=by have h1:=Gc.1.delete fL 1;have H:=Gc.2.delete fL 1;have e:pz (⟨r9,0⟩:hG) fL 1=(0,⟨vI,0⟩):=Yc;rw[e] at h1 H;exact⟨h1,H⟩
theorem YN{g:Nat}{x y:ByteArray}(h:w.heap[g]?=some (.cells #[.string x,.string y] 9 (0,0))):zG w g [x,y]:=fun i hi=>by
 have H:i=0\/i=1:=by simp at hi;omega
 rcases H with rfl | rfl
 ·exact Z h (i:=0) rfl
 ·exact Z h (i:=1) rfl
theorem YO(cD:List (Int×Int))(uN:Value)(w:World)(dh:Ground w)(hit:CY w uN cD):Calls prog 16 #[uN] w fun e w'=>∃b,e=.returned (M b)/\gF w b (mB cD (min cD.length 12)) w':=by
 obtain⟨⟨a,af,rfl,hit⟩,b7,k7⟩:=hit;have aqf:=u hit;have AB:=u k7;have YP:=u (ao8 w dh);have YQ:Hid (∀W b,gF w b Js W->Calls prog 38 #[M b,.string ⟨#[116]⟩,.string ⟨#[120,58,105,44,121,58,116]⟩] W fun e aU=>e=.returned (q 0)/\Hid (gF w b ⟨⟨[⟨fL,mA,[],0⟩],0⟩,⟨[],[],0⟩,[],0⟩ aU)):=u (fun W b h=>by
  have:=ao6 h (hA.zero 5) fL F8 K K;refine this.mono ?_;rintro e aU ⟨rfl,hk⟩;have gi:=hk.out.1;have ce:lL Js.ck fL F8=(0,⟨[⟨fL,mA,[],0⟩],0⟩):=PE;rw[ce] at gi ⊢;exact⟨rfl,u gi⟩)
 have YR:Hid (∀W b,gF w b ⟨⟨[⟨fL,mA,[],0⟩],0⟩,⟨[],[],0⟩,[],0⟩ W->Calls prog 39 #[M b,.string ⟨#[116]⟩,.slice (some ⟨W.heap.size,0,none⟩) 2 2] (W.alloc (.cells #[.string ⟨#[55]⟩,.string ⟨#[39,113,39]⟩] 9)) fun e aU=>e=.returned (.tuple #[q 1,q 0])/\Hid (gF w b JI aU)):=u (fun W b h=>by
  have dF:=(Below.refl W.heap.size W).alloc ap (.cells #[.string ⟨#[55]⟩,.string ⟨#[39,113,39]⟩] 9);have qy:=bH W (.cells #[.string ⟨#[55]⟩,.string ⟨#[39,113,39]⟩] 9);have:=Yh (h.below dF) YL K fL W.heap.size 2 [⟨#[55]⟩,⟨#[39,113,39]⟩] (YN qy) (jq qy) K K;refine this.mono ?_;rintro e aU ⟨rfl,hk⟩;have gi:=hk.out.1;have ce:mF ⟨[⟨fL,mA,[],0⟩],0⟩ fL [⟨#[55]⟩,⟨#[39,113,39]⟩]=(1,0,⟨r9,0⟩):=Yb;rw[ce] at gi ⊢;exact⟨rfl,u gi⟩)
 have C3:Hid (∀W b,gF w b JI W->Calls prog 18 #[M b,.string ⟨#[117]⟩,.string ⟨#[115,101,108,101,99,116,32,97,46,120,44,32,97,46,121,32,102,114,111,109,32,116,32,97]⟩] W fun e aU=>∃dc de,e=.returned (.tuple #[.agg #[.slice dc 1 de,q 0],q 0])/\Hid (fW 0 aU (.slice dc 1 de) JH/\gF w b ⟨⟨r9,0⟩,nh hS 0 [(fL,1)] ⟨[],[],0⟩,[],0⟩ aU)):=u (fun W b h=>by
  refine(Yi h Gc.1 Gc.2 hS CU K K K K rfl).mono ?_;rintro e aU ⟨dc,on,de,rfl,hk⟩;obtain⟨ct,bZ,_⟩:=hk.out;rw[ao4] at ct bZ ⊢;have PR:on=1:=by obtain⟨bE,C,am,_⟩:=id ct;obtain⟨nB,e7,Y⟩:=cG C;injection Y with _ Y _;rw[Y,am];rfl
  subst PR;exact⟨dc,de,rfl,u ⟨ct,bZ⟩⟩)
 have C1:Hid (∀W b,gF w b ⟨⟨r9,0⟩,nh hS 0 [(fL,1)] ⟨[],[],0⟩,[],0⟩ W->Calls prog 40 #[M b,.string ⟨#[116]⟩,q 1] W fun e aU=>e=.returned (q 0)/\Hid (gF w b JJ aU/\ki W aU)):=u (fun W b h=>by
  refine(ao7 h Gc.1 fL 1).mono ?_;rintro e aU ⟨rfl,hk⟩;have gi:=hk.out;have ce:pz (⟨r9,0⟩:hG) fL 1=(0,⟨vI,0⟩):=Yc;rw[ce] at gi ⊢;exact⟨rfl,u gi⟩)
 have vD:Hid (∀W b,gF w b JJ W->Calls prog 18 #[M b,.string ⟨#[117]⟩,.string ⟨#[115,101,108,101,99,116,32,97,46,120,32,102,114,111,109,32,116,32,97]⟩] W fun e aU=>∃dc de,e=.returned (.tuple #[.agg #[.slice dc 0 de,q 0],q 0])/\Hid (gF w b AT aU/\ki W aU)):=u (fun W b h=>by
  refine(Yi h YM.1 YM.2 hS CV K K K K rfl).mono ?_;rintro e aU ⟨dc,on,de,rfl,hk⟩;obtain⟨ct,bZ⟩:=hk.out;rw[ao5] at ct bZ ⊢;have PR:on=0:=by obtain⟨bE,C,am,_⟩:=id ct;obtain⟨nB,e7,Y⟩:=cG C;injection Y with _ Y _;rw[Y,am];rfl
  subst PR;exact⟨dc,de,rfl,u bZ⟩)
 clear dh hit k7;go_enter func16,ntmps16;go_upto_region 7 with(first
  | (go_at_call 18;refine(C3.out aA b l2.out).mono ?_;rintro e bI ⟨dc,de,rfl,l9⟩)
  | (go_at_call 39;refine(YR.out S b iH.out).mono ?_;rintro e aA ⟨rfl,l2⟩)
  | (go_at_call 38;refine(YQ.out J b H1.out).mono ?_;rintro e S ⟨rfl,iH⟩)
  | (go_at_call 37;refine YP.out.mono ?_;rintro e J ⟨b,rfl,H1⟩))
 go_upto_region 9 with(first
  | (go_at_call 18;refine(vD.out bh b rq.out.1).mono ?_;rintro e cw ⟨rl,vL,rfl,p6⟩)
  | (go_at_call 40;refine(C1.out _ b (l9.out.2.below cT)).mono ?_;rintro e bh ⟨rfl,rq⟩))
 have PS:Hid (gF w b AT (cw.alloc (.cells #[.slice rl 0 vL,q 0] 33))):=u (p6.out.1.below cT);obtain⟨g,aC,bA,ib,rfl,rfl,d0,d1,d2,d3,d4⟩:∃g aC bA ib,dc=some ⟨g,0,none⟩/\aC=some ⟨ib,0,none⟩/\(cw.alloc (.cells #[.slice rl 0 vL,q 0] 33)).cell? ⟨bI.heap.size,0,none⟩=some (.slice dc 1 de)/\(cw.alloc (.cells #[.slice rl 0 vL,q 0] 33)).cell? ⟨g,0,none⟩=some (.slice aC 2 bA)/\(cw.alloc (.cells #[.slice rl 0 vL,q 0] 33)).cell? ⟨ib,0,none⟩=some (.string ⟨#[55]⟩)/\(cw.alloc (.cells #[.slice rl 0 vL,q 0] 33)).cell? ⟨ib,1,none⟩=some (.string ⟨#[39,113,39]⟩)/\(cw.alloc (.cells #[.slice rl 0 vL,q 0] 33)).cell? ⟨cw.heap.size,0,none⟩=some (.slice rl 0 vL):=by
  have av:ki (bI.alloc (.cells #[.slice dc 1 de,q 0] 33)) (cw.alloc (.cells #[.slice rl 0 vL,q 0] 33)):=(rq.out.2.trans p6.out.2).trans (ki.below cT);have fA:=av.other _ _ _ _ (bH bI _) (F9 (.inr (.inr (.inr rfl))));have ct:=av.out (l9.out.1.below ((Below.refl _ _).alloc ap (.cells #[.slice dc 1 de,q 0] 33)));obtain⟨bE,C,am,k⟩:=ct;have kz:bE.length=1:=am;have lK:(cw.alloc (.cells #[.slice rl 0 vL,q 0] 33)).ownsRow 0 44 2 (.slice dc bE.length de) bE.length (bE.flatMap CH):=by rw[kz] at C ⊢;exact C
  obtain⟨g,eX,R,bk,c1⟩:=Ps lK 0 r;obtain⟨aI,_⟩:=k 0 r (by show 0<1;omega);obtain⟨aC,bA,Y⟩:=cG aI;rw[Y] at bk aI;obtain⟨ib,ev,_,nc⟩:=PF (l:=[⟨#[55]⟩,⟨#[39,113,39]⟩]) aI 0 (by show 0<2;omega);obtain⟨atD,C4,_,s1⟩:=PF (l:=[⟨#[55]⟩,⟨#[39,113,39]⟩]) aI 1 (by show 1<2;omega);rw[ev] at C4;injection C4 with C4;injection C4 with C4;subst C4;exact⟨g,aC,bA,ib,eX,ev,Z fA (i:=0) rfl,bk,nc,s1,Z (bH cw _) (i:=0) rfl⟩
 generalize cw.alloc (.cells #[.slice rl 0 vL,q 0] 33)=YS at *;clear YP YQ YR C3 C1 vD H1 iH l2 l9 rq p6;go_upto_region 12 with fail;clear d0 d1 d2 d3 d4;have H4:Hid (gF w b (mB cD 0) YS):=u PS.out;have kO:Hid (Below w.heap.size w YS):=u PS.out.ho;clear PS;go_loopg [5,6,12] 13 (fun U Ya kr gr wr=>∃k:Nat,gr=q (k:Int)/\k<=cD.length/\k<=12/\Hid (gF w b (mB cD k) wr)/\12-k<U);case atStart=>exact⟨0,rfl,bu,bu,H4,r⟩
 case round=>
  obtain⟨k,rfl,bZ,dR,e1,ae⟩:=hrel;by_cases jl:k<cD.length
  ·by_cases I4:k<12
   ·have JR:(k:Int)<(cD.length:Int):=r;have atE:(k:Int)<12:=r;obtain⟨g2,off,rfl,bC,iV⟩:∃g off,a=some ⟨g,off,none⟩/\g<w.heap.size/\∀i (h:i<cD.length),w.cell? ⟨g,off+i*2,none⟩=some (q cD[i].1)/\w.cell? ⟨g,off+i*2+1,none⟩=some (q cD[i].2):=by
     rcases aqf.out with h | h
     ·rw[h] at jl;exact absurd jl (fp _)
     ·exact h
    obtain⟨bz,cz,fP,mq⟩:=AB.out _ (ec jl);have ko:cD.getD k (0,0)=cD[k]:=by rw[List.getD_eq_getElem?_getD,fC jl];rfl
    have PT:Hid (mF (uM cD k) fL [nk cD[k].1,nl cD[k].2]=(k+2,0,uM cD (k+1))):=u (by have:=Ym cD k I4;rw[ko] at this;exact this);have uu:Hid (∀W,Below w.heap.size w W->W.cell? ⟨g2,off+k*2,none⟩=some (q cD[k].1)/\W.cell? ⟨g2,off+k*2+1,none⟩=some (q cD[k].2)):=u (fun W A=>⟨(A.cell (p:=⟨g2,off+k*2,none⟩) bC).trans (iV k jl).1,(A.cell (p:=⟨g2,off+k*2+1,none⟩) bC).trans (iV k jl).2⟩);have q9:IntKind.i64.wrap ((k:Int)+2)=(k:Int)+2:=by rw[IntKind.wrap_i64];omega
    have q8:IntKind.i64.wrap ((k:Int)+1)=(k:Int)+1:=by rw[IntKind.wrap_i64];omega
    clear iV ko;generalize cD[k]=aqg at *;obtain⟨q2,q3⟩:=aqg;simp only[] at bz cz fP mq PT uu;have vz:Below wr.heap.size wr wr.drew:=⟨rfl,rfl,rfl,ap,fun _ _=>rfl⟩;have aqh:Hid (Calls prog 23 #[q q2] wr.drew fun e J=>e=.returned (.string (nk q2))/\(J.cell? ⟨g2,off+k*2,none⟩=some (q q2)/\J.cell? ⟨g2,off+k*2+1,none⟩=some (q q3))/\Hid (gF w b (mB cD k) J)):=u ((aoP q2 wr.drew bz cz).mono (by
     rintro e J ⟨rfl,A⟩;have h1:=(e1.out.below vz).below A;exact⟨rfl,uu.out J h1.ho,u h1⟩))
    have aqi:Hid (∀W,gF w b (mB cD k) W->Calls prog 41 #[q q3] W fun e S=>e=.returned (.string (nl q3))/\(S.cell? ⟨g2,off+k*2,none⟩=some (q q2)/\S.cell? ⟨g2,off+k*2+1,none⟩=some (q q3))/\Hid (gF w b (mB cD k) S)):=u (fun W h=>(aoQ q3 W fP mq).mono (by
     rintro e S ⟨rfl,A⟩;have h1:=h.below A;exact⟨rfl,uu.out S h1.ho,u h1⟩))
    have aqj:Hid (∀W,gF w b (mB cD k) W->Calls prog 39 #[M b,.string ⟨#[116]⟩,.slice (some ⟨W.heap.size,0,none⟩) 2 2] (W.alloc (.cells #[.string (nk q2),.string (nl q3)] 9)) fun e aA=>e=.returned (.tuple #[q ((k:Int)+2),q 0])/\(aA.cell? ⟨g2,off+k*2,none⟩=some (q q2)/\aA.cell? ⟨g2,off+k*2+1,none⟩=some (q q3))/\Hid (gF w b (mB cD (k+1)) aA)):=u (fun W h=>by
     have dF:=(Below.refl W.heap.size W).alloc ap (.cells #[.string (nk q2),.string (nl q3)] 9);have qy:=bH W (.cells #[.string (nk q2),.string (nl q3)] 9);have:=Yh (h.below dF) (PG cD k dR).1 r fL W.heap.size 2 [nk q2,nl q3] (YN qy) (jq qy) (by show 2<=2000000;omega) (fun t au=>by
      have q1:=(Yj q2).2.2;have bN:=(Yk q3).2.2;rcases List.mem_cons.1 au with rfl | au
      ·omega
      ·obtain rfl:=ic au;omega)
     refine this.mono ?_;rintro e aA ⟨rfl,hk⟩;have gi:=hk.out.1;have ce:mF (mB cD k).ck fL [nk q2,nl q3]=(k+2,0,uM cD (k+1)):=PT.out;rw[ce] at gi ⊢;have YT:gF w b (mB cD (k+1)) aA:=gi;exact⟨rfl,uu.out aA YT.ho,u YT⟩)
    obtain⟨nc,s1⟩:=uu.out wr e1.out.ho;generalize nk q2=atF at *;generalize nl q3=atG at *;have ch:=u ae;clear ae bz cz fP mq PT vz bC uu;go_upto_region 14 with fail;go_region_held3 (fun w'=>w'.cell? ⟨g2,off+k*2,none⟩=some (q q2)/\w'.cell? ⟨g2,off+k*2+1,none⟩=some (q q3)) (go_keep) (first
     | (go_at_call 39;refine(aqj.out S kh.out).mono ?_;rintro e aA ⟨rfl,⟨bk,c1⟩,oO⟩)
     | (go_at_call 41;refine(aqi.out J jd.out).mono ?_;rintro e S ⟨rfl,⟨hr,cN⟩,kh⟩)
     | (go_at_call 23;refine aqh.out.mono ?_;rintro e J ⟨rfl,⟨a0,bq⟩,jd⟩))
    all_goals
     clear nc s1 a0 bq hr cN bk c1;go_wp2_with fail;have ae:=ch.out;go_roundg (gk-1);case measure=>omega
     case rel=>exact⟨k+1,by go_num,r,r,oO,r⟩
   ·have vq:k=12:=r;subst vq;have JR:((12:Nat):Int)<(cD.length:Int):=r;have bK:Hid (min cD.length 12=12):=u r;clear ae;go_wp2_with fail;go_ret;exact⟨b,rfl,by rw[bK.out];exact e1.out⟩
  ·have vq:k=cD.length:=r;have JR:(cD.length:Int)<=(k:Int):=r;have bK:Hid (min cD.length 12=k):=u r;clear ae vq;go_wp2_with fail;go_ret;exact⟨b,rfl,by rw[bK.out];exact e1.out⟩
theorem AY(g:az->List (List (Nat×List al))->az×List (List (Nat×List al)))(p:List (Nat×List al)->Bool)(R:∀st aP,st.dE=false->g st aP=(st,if p st.ad then aP++[st.ad] else aP)):∀(l:List (Nat×List al)) (st:az) (aP:List (List (Nat×List al))),st.ad=[]->st.dE=false->oz g l st aP=(st,aP++(l.filter fun C=>p [C]).map fun C=>[C])
 | [],st,aP,_,_=>by simp[oz]
 | C::l,st,aP,aw,h1=>by
  obtain⟨ad,bF,eP,dE⟩:=st;simp only at aw h1;subst aw h1;rw[oz,R _ _ rfl];simp only[List.nil_append,List.length_singleton,Nat.sub_self,List.take_zero];rw[AY g p R l ⟨[],bF,eP,false⟩ _ rfl rfl];by_cases aj:p [C]=true
  ·simp[aj]
  ·simp[aj]
theorem AZ(a8:az->Bool×az)(ba:az->List al×az)(f:List (Nat×List al)->List al)(Cu:∀s,a8 s=(true,s))(hv:∀s,ba s=(f s.ad,s)):∀(l:List (Nat×List al)) (aP:List (List al×List (List (Nat×List al)))) (st:az),st.ad=[]->st.dE=false->(k8 a8 ba (l.map fun C=>[[C]]) aP st).1=aP++l.map (fun C=>(f [C],[[C]]))/\(k8 a8 ba (l.map fun C=>[[C]]) aP st).2.dE=false
 | [],aP,st,_,h1=>by simp[k8,h1]
 | C::l,aP,st,aw,h1=>by
  obtain⟨ad,bF,eP,dE⟩:=st;simp only at aw h1;subst aw h1;rw[List.map_cons,k8];simp only[Bool.false_eq_true,if_false];have e:mp a8 ba [[C]] ⟨[],bF,eP,false⟩=([(f [C],[[C]])],⟨[],[[C]],eP,false⟩):=by unfold mp;simp[Cu,hv]
  rw[e];have aH:=AZ a8 ba f Cu hv l (aP++[(f [C],[[C]])]) ⟨[],[[C]],eP,false⟩ rfl rfl;rw[aH.1];exact⟨by simp,aH.2⟩
theorem H9{e:aL}{s:ByteArray×ByteArray}(ak:dJ e=false)(p:List (Nat×List al)->Bool)(hk:∀st,iZ (bR B O wh (ea B [s])) wh st=(p st.ad,st))(f:List (Nat×List al)->List al)(hv:∀st,hL (ea B [s]) O e st=(f st.ad,st))(ar:(gC B s).length<=20000):(bR B O (.query e [s] wh .nil .nil) [] nG).2.1=((gC B s).filter fun C=>p [C]).map (fun C=>(f [C],[[C]]))/\(bR B O (.query e [s] wh .nil .nil) [] nG).2.2.dE=false:=by
 have ai:fY B [s]=(gC B s).length:=by simp[fY]
 have PN:iJ B [s] (iZ (bR B O wh (ea B [s])) wh) nG=(mQ (gC B s).length nG,((gC B s).filter fun C=>p [C]).map fun C=>[C]):=by
  unfold iJ;rw[ai];split
  ·rename_i aw;rw[ma aw];rfl
  ·have av:(mQ (gC B s).length nG).dE=false:=by simp[mQ,nG];omega
   rw[hB,if_neg (by rw[av];decide)];rw[AY _ p (fun st aP h=>by rw[hB,if_neg (by rw[h];decide),hk];rfl) _ _ _ rfl av,List.nil_append]
 have av:(mQ (gC B s).length nG).dE=false:=by simp[mQ,nG];omega
 have Cu:∀st,iZ (bR B O .nil (ea B [s])) .nil st=(true,st):=fun st=>rfl;have h:=AZ _ _ f Cu hv ((gC B s).filter fun C=>p [C]) [] (mQ (gC B s).length nG) rfl av;have R:mR e .nil .nil (hL (ea B [s]) O .nil) (mQ (gC B s).length nG,((gC B s).filter fun C=>p [C]).map fun C=>[C])=(((gC B s).filter fun C=>p [C]).map fun C=>[[C]],mQ (gC B s).length nG):=by unfold mR wD;rw[ak];simp[isNone]
 rw[bR];simp only[List.nil_append];rw[PN,R];rw[List.nil_append] at h;exact h
def jr:ByteArray:=⟨#[97]⟩
def xp:ByteArray:=⟨#[120]⟩
def vJ:aL:=.node 1 jr xp al.zero .nil .nil
def PO:aL:=.cons vJ .nil
def YG(n:Int):aL:=.node 18 ⟨#[]⟩ ⟨#[]⟩ al.zero (.cons vJ (.cons (.node 2 ⟨#[]⟩ ⟨#[]⟩ ⟨1,n,[]⟩ .nil .nil) .nil)) .nil
theorem adZ:t2=.query PO [(fL,jr)] .nil .nil .nil:=ax
def YU:List UInt8:=[115,101,108,101,99,116,32,97,46,120,32,102,114,111,109,32,116,32,97,32,119,104,101,114,101,32,97,46,120,32,62,32]
def YE(m:Nat):ByteArray:=a7 (YU++(im ((m:Int)-4)).data.toList)
theorem ad0:∀m,m<11->(hC (YE m)).map (·.2)=some (.query PO [(fL,jr)] (YG ((m:Int)-4)) .nil .nil):=by
 intro m hm;rcases(by omega:m=0\/m=1\/m=2\/m=3\/m=4\/m=5\/m=6\/m=7\/m=8\/m=9\/m=10) with rfl | rfl | rfl | rfl | rfl | rfl | rfl | rfl | rfl | rfl | rfl
 all_goals kernel_rfl
theorem Cb(st:az):BP [⟨jr,mA⟩] st jr xp=((st.ad.getD 0 (0,[])).2).getD 0 al.zero:=by have:L0 [⟨jr,mA⟩] jr xp=some (0,0,1):=ax;unfold BP;rw[this]
theorem ad1(O:Int)(st:az):hL [⟨jr,mA⟩] O PO st=([((st.ad.getD 0 (0,[])).2).getD 0 al.zero],st):=by simp only[PO,vJ,hL,ca,if_true];rw[Cb]
theorem ad3(B:List bG)(O n:Int)(st:az):iZ (bR B O (YG n) [⟨jr,mA⟩]) (YG n) st=(decide (pP 18 (((st.ad.getD 0 (0,[])).2).getD 0 al.zero) ⟨1,n,[]⟩=2),st):=by simp only[iZ,YG,isNone,bR,vJ,ca];simp only[Nat.reduceEqDiff,if_false,if_true,Bool.false_eq_true,Cb]
theorem YV{cm:List (Nat×List al)}(p:List (Nat×List al)->Bool)(b1:gC B (fL,jr)=cm)(eU:ea B [(fL,jr)]=[⟨jr,mA⟩])(hk:∀st,iZ (bR B O wh [⟨jr,mA⟩]) wh st=(p st.ad,st))(ar:cm.length<=20000):oK B O [(fL,jr)] (.query PO [(fL,jr)] wh .nil .nil)=some ((kM pg ((cm.filter fun C=>p [C]).map fun C=>([C.2.getD 0 al.zero],[(fL,(C.1:Int))]))).map nF):=by
 have h:=H9 (B:=B) (O:=O) (e:=PO) (wh:=wh) (s:=(fL,jr)) rfl p (by rw[eU];exact hk) (fun l=>[((l.getD 0 (0,[])).2).getD 0 al.zero]) (by rw[eU];exact ad1 O) (by rw[b1];exact ar);rw[b1] at h;unfold oK;rw[h.2,h.1,if_neg K,List.map_map];congr 3;apply List.map_congr_left;intro C _;show lG [(fL,jr)] ([C.2.getD 0 al.zero],[[C]])=_;unfold lG;rw[show iO [(fL,jr)] [[C]] [(fL,jr)].length=[(fL,(C.1:Int))] from rfl,Yf]
def cls(c:Int):Nat:=if 10<=qZ c 12 then 0 else qZ c 12+1
def ov(j:Nat):ByteArray:=if j=0 then JG else im ((j:Int)-4)
def lI(j:Nat):al:=if j=0 then al.zero else ⟨1,(j:Int)-4,[]⟩
theorem um(c:Int):cls c<11:=by have:=(F7 (c:=c) (n:=12) K).2;unfold cls;split<;>omega
theorem PV:∀k,k<12->(fy (JK k).data.toList).1=lI (if 10<=k then 0 else k+1):=by
 intro k hk;rcases(by omega:k=0\/k=1\/k=2\/k=3\/k=4\/k=5\/k=6\/k=7\/k=8\/k=9\/k=10\/k=11) with rfl | rfl | rfl | rfl | rfl | rfl | rfl | rfl | rfl | rfl | rfl | rfl
 all_goals kernel_rfl
theorem C2(c:Int):CW c=lI (cls c):=PV (qZ c 12) (F7 K).2
theorem ad5(c:Int):nk c=ov (cls c):=by
 have:=(F7 (c:=c) (n:=12) K).2;unfold nk cls ov;split
 ·rfl
 ·rw[if_neg r];congr 1;omega
theorem ahR:∀i,i<11->∀j,j<11->(ov i).data.toList=(ov j).data.toList->i=j:=by decide +kernel
theorem XA(c:Int)(j:Nat)(aS:j<11):nk c=ov j↔cls c=j:=by rw[ad5];refine⟨fun h=>ahR _ (um c) _ aS (by rw[h]),fun h=>by rw[h]⟩
theorem ahS:∀j,j<11->a7 (iI (lI j))=ov j:=by
 intro k hk;rcases(by omega:k=0\/k=1\/k=2\/k=3\/k=4\/k=5\/k=6\/k=7\/k=8\/k=9\/k=10) with rfl | rfl | rfl | rfl | rfl | rfl | rfl | rfl | rfl | rfl | rfl
 all_goals kernel_rfl
theorem ahT:∀j,j<11->∀i,i<j->jo (lI j) (lI i)=1:=by decide +kernel
theorem ahU:∀j,j<11->jo (lI j) (lI j)=0:=by decide +kernel
theorem anq:∀m:Nat,m<11->∀j,j<11->decide (pP 18 (lI j) ⟨1,(m:Int)-4,[]⟩=2)=decide (m<j):=by decide +kernel
def gU(cD:List (Int×Int))(k:Nat):Nat:=cls (cD.getD k (0,0)).1
def YF(cD:List (Int×Int))(k:Nat):h8:=([lI (gU cD k)],[(fL,((k+2:Nat):Int))])
theorem C5(cD:List (Int×Int)):∀n,AU cD n=(List.range n).map fun k=>(k+2,[CW (cD.getD k (0,0)).1,CX (cD.getD k (0,0)).2])
 | 0=>rfl
 | n+1=>by rw[AU,C5 cD n,List.range_succ,List.map_append];rfl
def AX(cD:List (Int×Int))(n:Nat)(P:Nat->Bool)(m:Nat):List Nat:=(List.range m).flatMap fun j=>(List.range n).filter fun k=>decide (gU cD k=j)&&P j
theorem YW(c:Nat->Nat)(l:List Nat):∀m,((List.range m).flatMap fun j=>l.filter fun k=>decide (c k=j)).Perm (l.filter fun k=>decide (c k<m))
 | 0=>by
  have:(l.filter fun k=>decide (c k<0))=[]:=by apply List.filter_eq_nil_iff.2;intro a _;simp
  rw[this];exact List.Perm.refl _
 | m+1=>by
  rw[List.range_succ,List.flatMap_append];have h1:=YW c l m;have H:=List.filter_append_perm (fun k=>decide (c k<m)) (l.filter fun k=>decide (c k<m+1));refine List.Perm.trans ?_ H;have Y:(l.filter fun k=>decide (c k<m+1)).filter (fun k=>decide (c k<m))=l.filter fun k=>decide (c k<m):=by
   rw[List.filter_filter];congr 1;funext k;by_cases h:c k<m
   ·simp[h];omega
   ·simp[h]
  have am:(l.filter fun k=>decide (c k<m+1)).filter (fun k=>!decide (c k<m))=l.filter fun k=>decide (c k=m):=by
   rw[List.filter_filter];congr 1;funext k;by_cases h:c k=m
   ·simp[h]
   ·simp[h];omega
  rw[Y,am];simp only[List.flatMap_cons,List.flatMap_nil,List.append_nil];exact h1.append_right _
theorem YH(cD:List (Int×Int))(n:Nat)(P:Nat->Bool):kM pg (((List.range n).filter fun k=>P (gU cD k)).map (YF cD))=(AX cD n P 11).map (YF cD):=by
 symm;refine UI UG (fun x y h=>ahO h) (List.Perm.map _ ?_) ?_
 ·have h:=YW (gU cD) ((List.range n).filter fun k=>P (gU cD k)) 11;have Y:((List.range n).filter fun k=>P (gU cD k)).filter (fun k=>decide (gU cD k<11))=(List.range n).filter fun k=>P (gU cD k):=by apply List.filter_eq_self.2;intro a _;exact decide_eq_true (um _)
  rw[Y] at h;refine List.Perm.trans (List.Perm.of_eq ?_) h;unfold AX;congr 1;funext j;rw[List.filter_filter];congr 1;funext k;by_cases aS:gU cD k=j
  ·simp[aS]
  ·simp[aS]
 ·unfold Ak;rw[List.pairwise_map];have aj:(AX cD n P 11).Pairwise fun a b=>gU cD a<gU cD b\/(gU cD a=gU cD b/\a<b):=by
   unfold AX;rw[List.pairwise_flatMap];refine⟨fun j _=>?_,?_⟩
   ·have aw:((List.range n).filter fun k=>decide (gU cD k=j)&&P j).Pairwise (· < ·):=List.Pairwise.filter _ List.pairwise_lt_range;refine List.Pairwise.imp_of_mem ?_ aw;intro a b ak A pA;have h1:=(List.mem_filter.1 ak).2;have H:=(List.mem_filter.1 A).2;rw[Bool.and_eq_true,decide_eq_true_eq] at h1 H;exact .inr ⟨h1.1.trans H.1.symm,pA⟩
   ·refine List.Pairwise.imp ?_ List.pairwise_lt_range;intro i j tQ a ak b A;have h1:=(List.mem_filter.1 ak).2;have H:=(List.mem_filter.1 A).2;rw[Bool.and_eq_true,decide_eq_true_eq] at h1 H;left;rw[h1.1,H.1];exact tQ
  refine List.Pairwise.imp ?_ aj;intro a b pA;have X:gU cD b<11:=um _;unfold pg sR YF;dsimp only;rcases pA with h | ⟨h,cC⟩
  ·have h1:gl jo [lI (gU cD b)] [lI (gU cD a)]=1:=by simp[gl,ahT _ X _ h]
   rw[if_neg (by rw[h1];decide),h1];decide
  ·have h1:gl jo [lI (gU cD b)] [lI (gU cD a)]=0:=by rw[h];simp[gl,ahU _ X]
   have ai:hf (fL,((b+2:Nat):Int)) (fL,((a+2:Nat):Int))=1:=by
    unfold hf sR;have ce:tW fL.data.toList fL.data.toList=0:=K;have Y:pO ((b+2:Nat):Int) ((a+2:Nat):Int)=1:=by unfold pO;rw[if_neg r,if_pos r]
    dsimp only;rw[if_pos ce,Y]
   have H:gl hf [(fL,((b+2:Nat):Int))] [(fL,((a+2:Nat):Int))]=1:=by rw[gl,if_neg (by rw[ai];decide),ai]
   rw[if_pos h1,H];decide
theorem anr(cm:List (Nat×List al))(k:Nat):hN (pq [⟨fL,mA,cm,k⟩]) CV=0:=ax
theorem ans(cm:List (Nat×List al))(k:Nat):∀m,m<11->hN (pq [⟨fL,mA,cm,k⟩]) (YE m)=0:=by
 intro m hm;rcases(by omega:m=0\/m=1\/m=2\/m=3\/m=4\/m=5\/m=6\/m=7\/m=8\/m=9\/m=10) with rfl | rfl | rfl | rfl | rfl | rfl | rfl | rfl | rfl | rfl | rfl
 all_goals kernel_rfl
theorem DT(cD:List (Int×Int))(n:Nat):gC (uM cD n).bY (fL,jr)=AU cD n:=ax
theorem Ga(cD:List (Int×Int))(n:Nat):ea (uM cD n).bY [(fL,jr)]=[⟨jr,mA⟩]:=ax
def eq(cD:List (Int×Int))(n:Nat)(P:Nat->Bool):List l7:=(AX cD n P 11).map fun k=>([ov (gU cD k)],[(fL,((k+2:Nat):Int))])
theorem YX(cD:List (Int×Int))(n:Nat)(P:Nat->Bool):((AX cD n P 11).map (YF cD)).map nF=eq cD n P:=by unfold eq;rw[List.map_map];apply List.map_congr_left;intro k _;show([a7 (iI (lI (gU cD k)))],[(fL,((k+2:Nat):Int))])=_;rw[ahS (gU cD k) (um _)]
theorem YY(cD:List (Int×Int))(n:Nat)(p:List (Nat×List al)->Bool)(P:Nat->Bool)(h:∀k v x,v<11->p [(k,[lI v,x])]=P v):((AU cD n).filter fun C=>p [C]).map (fun C=>([C.2.getD 0 al.zero],[(fL,(C.1:Int))]))=((List.range n).filter fun k=>P (gU cD k)).map (YF cD):=by
 rw[C5,List.filter_map,List.map_map];congr 1
 ·funext k;show([CW _],_)=YF cD k;rw[C2];rfl
 ·congr 1;funext k;show p [(k+2,[CW _,CX _])]=_;rw[C2];exact h (k+2) _ _ (um _)
theorem ape(cD:List (Int×Int))(n:Nat)(ar:n<=12):oK (uM cD n).bY 0 [(fL,jr)] (.query PO [(fL,jr)] .nil .nil .nil)=some (eq cD n fun _=>true):=by rw[YV (fun _=>true) (DT cD n) (Ga cD n) (fun st=>rfl) (by rw[Yl];omega),YY cD n (fun _=>true) (fun _=>true) (fun _ _ _ _=>rfl),YH cD n (fun _=>true),YX]
theorem apx(cD:List (Int×Int))(n m:Nat)(ar:n<=12)(hm:m<11):oK (uM cD n).bY 0 [(fL,jr)] (.query PO [(fL,jr)] (YG ((m:Int)-4)) .nil .nil)=some (eq cD n fun j=>decide (m<j)):=by rw[YV (fun l=>decide (pP 18 (((l.getD 0 (0,[])).2).getD 0 al.zero) ⟨1,(m:Int)-4,[]⟩=2)) (DT cD n) (Ga cD n) (fun st=>ad3 _ _ _ st) (by rw[Yl];omega),YY cD n (fun l=>decide (pP 18 (((l.getD 0 (0,[])).2).getD 0 al.zero) ⟨1,(m:Int)-4,[]⟩=2)) (fun j=>decide (m<j)) (fun _ v _ hv=>anq m hm v hv),YH cD n (fun j=>decide (m<j)),YX]
theorem apz(f:qh->n9->Bool)(cD:List (Int×Int))(n:Nat)(ar:n<=12):gE f (mB cD n) hS CV=⟨0,0,eq cD n fun _=>true,{mB cD n with c7:=nh hS 0 (hj ((eq cD n fun _=>true).map (·.2))) AT.c7}⟩:=Yg (t:=.query PO [(fL,jr)] .nil .nil .nil) K (anr _ _) (by rw[<-adZ];exact aoS) (ape cD n ar) (of_decide_eq_true ax) rfl
theorem apA(f:qh->n9->Bool)(cD:List (Int×Int))(n m:Nat)(ar:n<=12)(hm:m<11)(c7:qh)(aS:c7.count<60):∃w',gE f {mB cD n with c7:=c7} hS (YE m)=⟨0,0,eq cD n fun j=>decide (m<j),w'⟩:=by
 have h:=ad0 m hm;cases ag:hC (YE m) with
 | none=>rw[ag] at h;cases h
 | some x=>rw[ag] at h;obtain⟨ts,t⟩:=x;obtain rfl:t=_:=bx h;exact⟨_,Yg (s:={mB cD n with c7:=c7}) K (ans _ _ m hm) ag (apx cD n m ar hm) aS rfl⟩
def ey(cD:List (Int×Int))(n:Nat)(P:Nat->Bool)(j k:Nat):Nat:=(AX cD n P j).length+((List.range k).filter fun i=>decide (gU cD i=j)&&P j).length
theorem YI(cD:List (Int×Int))(n:Nat)(P:Nat->Bool)(j:Nat):AX cD n P (j+1)=AX cD n P j++(List.range n).filter fun i=>decide (gU cD i=j)&&P j:=by unfold AX;rw[List.range_succ,List.flatMap_append];simp
theorem sm(cD:List (Int×Int))(n:Nat)(P:Nat->Bool)(j k:Nat):ey cD n P j (k+1)=ey cD n P j k+if gU cD k=j/\P j=true then 1 else 0:=by unfold ey;rw[List.range_succ,List.filter_append,cu];by_cases h1:gU cD k=j<;>by_cases H:P j=true<;>simp[h1,H]<;>omega
theorem PQ(cD:List (Int×Int))(n:Nat)(P:Nat->Bool)(j:Nat):ey cD n P (j+1) 0=ey cD n P j n:=by unfold ey;rw[YI,cu];simp
theorem PU(cD:List (Int×Int))(n:Nat)(P:Nat->Bool):ey cD n P 11 0=(eq cD n P).length:=by unfold ey eq;simp
theorem YZ(cD:List (Int×Int))(n:Nat)(P:Nat->Bool)(j:Nat):∀m,j<=m->∃C,AX cD n P m=AX cD n P j++C
 | 0,h=>⟨[],by
  have aw:j=0:=r;rw[aw,List.append_nil]⟩
 | m+1,h=>by
  by_cases aS:j=m+1
  ·subst aS;exact⟨[],by simp⟩
  ·obtain⟨C,ag⟩:=YZ cD n P j m r;exact⟨_,by rw[YI,ag,List.append_assoc]⟩
theorem Y1(k:Nat):∀n,k<=n->∃C,List.range n=List.range k++C
 | 0,h=>⟨[],by
  have aw:k=0:=r;rw[aw,List.append_nil]⟩
 | n+1,h=>by
  by_cases hk:k=n+1
  ·subst hk;exact⟨[],by simp⟩
  ·obtain⟨C,ag⟩:=Y1 k n r;exact⟨_,by rw[List.range_succ,ag,List.append_assoc]⟩
theorem apB(cD:List (Int×Int))(n:Nat)(P:Nat->Bool)(j k:Nat)(aS:j<11)(hk:k<n)(h1:gU cD k=j)(H:P j=true):(AX cD n P 11)[ey cD n P j k]?=some k:=by
 obtain⟨C,ag⟩:=YZ cD n P (j+1) 11 r;obtain⟨lK,tw⟩:=Y1 (k+1) n r;rw[ag,YI,tw,List.range_succ,List.filter_append,List.filter_append];unfold ey;have e:([k].filter fun i=>decide (gU cD i=j)&&P j)=[k]:=by simp[h1,H]
 rw[e,List.append_assoc,List.append_assoc,List.append_assoc,List.getElem?_append_right r,Nat.add_sub_cancel_left,List.getElem?_append_right r,Nat.sub_self];rfl
theorem JW(cD:List (Int×Int))(n:Nat)(P:Nat->Bool)(j k:Nat)(aS:j<11)(hk:k<n)(h1:gU cD k=j)(H:P j=true):∃h:ey cD n P j k<(eq cD n P).length,(eq cD n P)[ey cD n P j k]=([ov j],[(fL,((k+2:Nat):Int))]):=by
 have h:=apB cD n P j k aS hk h1 H;have:(eq cD n P)[ey cD n P j k]?=some ([ov j],[(fL,((k+2:Nat):Int))]):=by unfold eq;rw[List.getElem?_map,h,eQ,h1]
 exact List.getElem?_eq_some_iff.1 this
theorem JZ(cD:List (Int×Int))(n:Nat)(P:Nat->Bool):(eq cD n P).length<=n:=by have h:=congrArg List.length (YH cD n P);unfold eq;rw[cZ] at *;rw[<-h,(sS _ _).length_eq,cZ];have:=List.length_filter_le (fun k=>P (gU cD k)) (List.range n);rw[List.length_range] at this;exact this
theorem PJ(v t:ByteArray)(n:Int)(g1 c1 g2 c2:Nat)(w:World)(h1:w.cell? ⟨g1,0,none⟩=some (.string v))(H:w.cell? ⟨g2,0,none⟩=some (.string t))(ab:w.cell? ⟨g2,1,none⟩=some (q n)):Calls prog 24 #[.agg #[.slice (some ⟨g1,0,none⟩) 1 c1,.slice (some ⟨g2,0,none⟩) 1 c2],.string v,.agg #[.string t,q n]] w fun e w'=>e=.returned (.bool true)/\∃U os,w'=Sort.grow (w.drewN U) os:=by
 have l1:=World.block_lt_of_cell? w _ h1;have bT:=World.block_lt_of_cell? w _ H;have bJ:Below w.heap.size w (w.alloc (.cells #[.slice (some ⟨g1,0,none⟩) 1 c1,.slice (some ⟨g2,0,none⟩) 1 c2] 44)):=cT;have ah:Below w.heap.size w ((w.alloc (.cells #[.slice (some ⟨g1,0,none⟩) 1 c1,.slice (some ⟨g2,0,none⟩) 1 c2] 44)).alloc (.cells #[.string t,q n] 47)):=bJ.alloc (by rw[cc];omega) _;have Y:=bH w (.cells #[.slice (some ⟨g1,0,none⟩) 1 c1,.slice (some ⟨g2,0,none⟩) 1 c2] 44);have am:=bH (w.alloc (.cells #[.slice (some ⟨g1,0,none⟩) 1 c1,.slice (some ⟨g2,0,none⟩) 1 c2] 44)) (.cells #[.string t,q n] 47);have aty:=oL (.cells #[.string t,q n] 47) Y;rw[cc] at am;have a0:=Z aty (i:=0) rfl;have bq:=Z aty (i:=1) rfl;have hr:=Z am (i:=0) rfl;have cN:=Z am (i:=1) rfl;have q1:=dr ah h1 l1
 have bN:=dr ah H bT;have fR:=dr ah ab bT;clear Y am aty bJ ah h1 H ab l1 bT;go_enter func24,ntmps24;go_upto_region 1 with fail;generalize aO:(w.alloc (.cells #[.slice (some ⟨g1,0,none⟩) 1 c1,.slice (some ⟨g2,0,none⟩) 1 c2] 44)).alloc (.cells #[.string t,q n] 47)=W at *;go_quiet (fail);go_wp2_with fail;refine bodyPost_ret (v:=.bool true) (by simp[results,results24,go_sem]) rfl ⟨rfl,nq,_,by rw[<-aO,alloc_eq_grow,alloc_eq_grow,grow_grow];rfl⟩
def vM(cD:List (Int×Int))(n:Nat):ni:={mB cD n with c7:=nh hS 0 (hj ((eq cD n fun _=>true).map (·.2))) AT.c7}
theorem adx:∀(l:List Nat) (f:Nat->fo),((l.map fun k=>[f k]).flatten).length=l.length
 | [],_=>rfl
 | a::l,f=>by simp[adx l f]
theorem apC(cD:List (Int×Int))(n:Nat)(ar:n<=12):(vM cD n).c7.log.length<=10000/\(vM cD n).c7.ng.length<=800000/\(vM cD n).c7.count<60:=by
 have h1:=Pv ((eq cD n fun _=>true).map (·.2));have H:=JZ cD n fun _=>true;have ab:((eq cD n fun _=>true).map (·.2)).flatten.length=(eq cD n fun _=>true).length:=by unfold eq;rw[List.map_map,cZ];exact adx _ (fun k=>(fL,((k+2:Nat):Int)))
 have bq:AT.c7.log.length<=100:=K;have a2:AT.c7.ng.length<=100:=K;refine⟨?_,?_,by show AT.c7.count+1<60;decide⟩
 ·show(AT.c7.log++[_]).length<=10000;rw[cu,List.length_singleton];omega
 ·show(AT.c7.ng++List.map _ _).length<=800000;rw[cu,cZ];omega
theorem Am{out:List l7}(h:fW 0 W (.slice a n c) out):n=out.length:=by obtain⟨bE,C,bN,_⟩:=h;obtain⟨nB,e7,q1⟩:=cG C;injection q1 with _ q1 _;rw[q1,bN]
theorem UP(ar:n<=12)(h:gF w b (mB cD n) W):Calls prog 18 #[M b,.string ⟨#[117]⟩,.string CV] W fun e aU=>∃a c,e=.returned (.tuple #[.agg #[.slice a (eq cD n fun _=>true).length c,q 0],q 0])/\Hid (fW 0 aU (.slice a (eq cD n fun _=>true).length c) (eq cD n fun _=>true)/\gF w b (vM cD n) aU/\ki W aU):=by
 obtain⟨YJ,YK⟩:=PG cD n ar;have h1:(mB cD n).c7.log.length<=10000:=by show AT.c7.log.length<=10000;decide
 have H:(mB cD n).c7.ng.length<=800000:=by show AT.c7.ng.length<=800000;decide
 have ab:(mB cD n).c7.count<=1000000:=by show AT.c7.count<=1000000;decide
 have hk:=Yi h YJ YK hS CV K h1 H ab rfl;rw[apz _ cD n ar] at hk;refine hk.mono ?_;rintro e aU ⟨a,m,c,rfl,ct⟩;have hm:=Am ct.d.1;subst hm;exact⟨a,c,rfl,ct⟩
theorem Xz{m:Nat}(ar:n<=12)(hm:m<11)(h:gF w b (vM cD n) W):Calls prog 18 #[M b,.string ⟨#[117]⟩,.string (YE m)] W fun e aU=>∃a c,e=.returned (.tuple #[.agg #[.slice a (eq cD n fun j=>decide (m<j)).length c,q 0],q 0])/\Hid (fW 0 aU (.slice a (eq cD n fun j=>decide (m<j)).length c) (eq cD n fun j=>decide (m<j))/\Below w.heap.size w aU/\ki W aU):=by
 obtain⟨YJ,YK⟩:=PG cD n ar;obtain⟨h1,H,ab⟩:=apC cD n ar;have hk:=Yi (s:=vM cD n) h YJ YK hS (YE m) K h1 H r rfl;obtain⟨w',hw⟩:=apA (fun _ _=>false) cD n m ar hm _ ab;have e:gE (fun _ _=>false) (vM cD n) hS (YE m)=⟨0,0,eq cD n fun j=>decide (m<j),w'⟩:=hw;rw[e] at hk;refine hk.mono ?_;rintro e aU ⟨a,k,c,rfl,ct⟩;have hk:=Am ct.d.1;subst hk;exact⟨a,c,rfl,u ⟨ct.d.1,ct.d.2.1.ho,ct.d.2.2⟩⟩
theorem UQ(m:Nat):(⟨#[115,101,108,101,99,116,32,97,46,120,32,102,114,111,109,32,116,32,97,32,119,104,101,114,101,32,97,46,120,32,62,32]⟩:ByteArray)++im ((m:Int)-4)=YE m:=by apply ByteArray.ext;apply Array.ext';simp[YE,YU,a7]
theorem Gd(h:ki W aU){out:List l7}(ct:fW 0 W v out):fW 0 aU v out:=by obtain⟨bE,h1,H,ab⟩:=ct;exact⟨bE,h.row (F9 (.inl rfl)) h1,H,fun i a b=>⟨h.row (F9 (.inr (.inl rfl))) (ab i a b).1,h.row (F9 (.inr (.inr (.inl rfl)))) (ab i a b).2⟩⟩
theorem Ge(h:w.ownsRow 0 47 2 v 1 [.string t,q m]):∃g c,v=.slice (some ⟨g,0,none⟩) 1 c/\w.cell? ⟨g,0,none⟩=some (.string t)/\w.cell? ⟨g,1,none⟩=some (q m):=by
 rcases h.2 with⟨bo,aw⟩ | ⟨g,cJ,ay,bo,eI,ed,hle,om,ff,BH⟩
 ·cases aw
 ·refine⟨g,cJ,bo,?_,?_⟩
  ·refine Z ed (i:=0) ?_;have:=congrArg (·[0]?) BH;simpa using this
  ·refine Z ed (i:=1) ?_;have:=congrArg (·[1]?) BH;simpa using this
theorem uP{dc:Option Addr}{gB i:Nat}{out:List l7}{v:ByteArray}(h:fW 0 W (.slice dc n gB) out)(hi:i<out.length)(he:out[i]=([v],[(t,m)])):∃g g1 c1 g2 c2,dc=some ⟨g,0,none⟩/\W.cell? ⟨g,i*2,none⟩=some (.slice (some ⟨g1,0,none⟩) 1 c1)/\W.cell? ⟨g,i*2+1,none⟩=some (.slice (some ⟨g2,0,none⟩) 1 c2)/\W.cell? ⟨g1,0,none⟩=some (.string v)/\W.cell? ⟨g2,0,none⟩=some (.string t)/\W.cell? ⟨g2,1,none⟩=some (q m):=by
 have ar:=Am h;obtain⟨bE,C,am,k⟩:=h;have JT:i<bE.length:=r;have Yz:n=bE.length:=r;rw[Yz] at C;obtain⟨g,eX,R,bk,c1⟩:=Ps C i JT;obtain⟨aI,aZ⟩:=k i JT hi;rw[he] at aI aZ;obtain⟨aC,bA,Y⟩:=cG aI;rw[Y] at bk aI;obtain⟨g1,ev,_,nc⟩:=PF (l:=[v]) aI 0 (by show 0<1;omega);obtain⟨g2,c2,G2,f0,f1⟩:=Ge aZ;rw[G2] at c1;rw[ev] at bk;exact⟨g,g1,bA,g2,c2,eX,bk,c1,nc,f0,f1⟩
theorem lh{dB:World}{p:Addr}(A:RowKit.Below W.heap.size W dB)(h:W.cell? p=some v):∀n os,(Sort.grow (dB.drewN n) os).cell? p=some v:=cell_grown (e0 (World.block_lt_of_cell? W p h) A.size) ((A.cell (World.block_lt_of_cell? W p h)).trans h)
theorem Il:∀m:Nat,m<11->(im ((m:Int)-4)).size<=30:=by decide +kernel
theorem JN(cD:List (Int×Int))(uN:Value)(bound:Int)(w:World)(dh:Ground w)(hit:CY w uN cD)(hr : -9223372036854775808<=bound)(cN:bound<=9223372036854775807):Calls prog 7 #[uN,q bound] w fun e w'=>e=.returned (.bool true)/\Below w.heap.size w w':=by
 have JY:min cD.length 12<=12:=Nat.min_le_right _ _;have ad4:min cD.length 12<=cD.length:=Nat.min_le_left _ _;have E2:=(F7 (c:=bound) (n:=11) K).2;have tV:Hid (Calls prog 16 #[uN] w fun e J=>∃b,e=.returned (M b)/\Hid (gF w b (mB cD (min cD.length 12)) J)):=u ((YO cD uN w dh hit).mono (by
  rintro e J ⟨b,rfl,hk⟩;exact⟨b,rfl,u hk⟩))
 have vK:Hid (∀W,Calls prog 22 #[q bound,q 11] W fun e w'=>e=.returned (q (qZ bound 11:Int))/\W=w'):=u (fun W=>X7 bound 11 W hr cN K K);obtain⟨⟨a,af,rfl,JV⟩,b7,k7⟩:=hit;have aqf:=u JV;have AB:=u k7;clear JV k7 dh hr cN;generalize qZ bound 11=ox at *;have vS:Hid (∀W (j:Nat),j<11->Calls prog 21 #[q ((j:Int)-4)] W fun e w'=>e=.returned (.string (im ((j:Int)-4)))/\Hid (Below W.heap.size W w')):=u (fun W j aS=>(JF ((j:Int)-4) W r r).mono (fun e w' h=>⟨h.1,u h.2⟩));have UO:IntKind.i64.wrap ((ox:Int)-4)=(ox:Int)-4:=by rw[IntKind.wrap_i64];omega
 have ff:¬9223372036854775807<32+(im ((ox:Int)-4)).size:=by have:=Il ox E2;omega
 generalize ahj:min cD.length 12=bv at *;have C3:Hid (∀W b,gF w b (mB cD bv) W->Calls prog 18 #[M b,.string ⟨#[117]⟩,.string ⟨#[115,101,108,101,99,116,32,97,46,120,32,102,114,111,109,32,116,32,97]⟩] W fun e aU=>∃a c,e=.returned (.tuple #[.agg #[.slice a (eq cD bv fun _=>true).length c,q 0],q 0])/\Hid (fW 0 aU (.slice a (eq cD bv fun _=>true).length c) (eq cD bv fun _=>true)/\gF w b (vM cD bv) aU/\ki W aU)):=u (fun W b h=>UP JY h)
 have vD:Hid (∀W b,gF w b (vM cD bv) W->Calls prog 18 #[M b,.string ⟨#[117]⟩,.string (⟨#[115,101,108,101,99,116,32,97,46,120,32,102,114,111,109,32,116,32,97,32,119,104,101,114,101,32,97,46,120,32,62,32]⟩++im ((ox:Int)-4))] W fun e aU=>∃a c,e=.returned (.tuple #[.agg #[.slice a (eq cD bv fun j=>decide (ox<j)).length c,q 0],q 0])/\Hid (fW 0 aU (.slice a (eq cD bv fun j=>decide (ox<j)).length c) (eq cD bv fun j=>decide (ox<j))/\Below w.heap.size w aU/\ki W aU)):=u (fun W b h=>by rw[UQ];exact Xz JY E2 h);go_enter func7,ntmps7;go_upto_region 6 with(first
  | (go_at_call 18;refine(C3.d J b H1.d).mono ?_;rintro e S ⟨dc,gB,rfl,iH⟩)
  | (go_at_call 22;refine(vK.d _).mono ?_;rintro e ahQ ⟨rfl,rfl⟩)
  | (go_at_call 16;refine tV.d.mono ?_;rintro e J ⟨b,rfl,H1⟩))
 have xA:Hid (gF w b (vM cD bv) (S.alloc (.cells #[.slice dc (eq cD bv fun _=>true).length gB,q 0] 33))):=u (iH.d.2.1.below cT);go_upto_region 7 with(first
  | (go_at_call 18;refine(vD.d aA b (xA.d.below l2.d)).mono ?_;rintro e bI ⟨rl,dx,rfl,l9⟩)
  | (go_at_call 21;refine(vS.d _ ox E2).mono ?_;rintro e aA ⟨rfl,l2⟩))
 have b4:Hid ((bI.alloc (.cells #[.slice rl (eq cD bv fun j=>decide (ox<j)).length dx,q 0] 33)).cell? ⟨S.heap.size,0,none⟩=some (.slice dc (eq cD bv fun _=>true).length gB)/\(bI.alloc (.cells #[.slice rl (eq cD bv fun j=>decide (ox<j)).length dx,q 0] 33)).cell? ⟨bI.heap.size,0,none⟩=some (.slice rl (eq cD bv fun j=>decide (ox<j)).length dx)/\fW 0 (bI.alloc (.cells #[.slice rl (eq cD bv fun j=>decide (ox<j)).length dx,q 0] 33)) (.slice dc (eq cD bv fun _=>true).length gB) (eq cD bv fun _=>true)/\fW 0 (bI.alloc (.cells #[.slice rl (eq cD bv fun j=>decide (ox<j)).length dx,q 0] 33)) (.slice rl (eq cD bv fun j=>decide (ox<j)).length dx) (eq cD bv fun j=>decide (ox<j))/\Below w.heap.size w (bI.alloc (.cells #[.slice rl (eq cD bv fun j=>decide (ox<j)).length dx,q 0] 33))):=by
  obtain⟨jH,-,-⟩:=iH.d;obtain⟨k2,lM,akQ⟩:=l9.d;have av:ki (S.alloc (.cells #[.slice dc (eq cD bv fun _=>true).length gB,q 0] 33)) (bI.alloc (.cells #[.slice rl (eq cD bv fun j=>decide (ox<j)).length dx,q 0] 33)):=((ki.below l2.d).trans akQ).trans (ki.below cT);have fA:=av.other _ _ _ _ (bH S _) (F9 (.inr (.inr (.inr rfl))));exact u ⟨Z fA (i:=0) rfl,Z (bH bI _) (i:=0) rfl,Gd av (jH.below cT),k2.below cT,lM.alloc (by have:=lM.size;exact this) _⟩
 generalize bI.alloc (.cells #[.slice rl (eq cD bv fun j=>decide (ox<j)).length dx,q 0] 33)=W at *;generalize S.heap.size=JO at *;generalize bI.heap.size=JP at *;obtain⟨d7,d9,xq,yT,fN⟩:=b4.d;have JQ:=u xq;have JS:=u yT;have kO:=u fN;clear xq yT fN b4 H1 iH l2 l9 xA C3 vD tV vK;go_upto_region 12 with fail;go_loopg [11,12,13,14,15,16,17] 12 (fun U s0 s3 lD wv gr sv aE wr=>∃j:Nat,j<=11/\lD=q ((j:Int)-4)/\s0=q (ey cD bv (fun _=>true) j 0:Int)/\s3=q (ey cD bv (fun j=>decide (ox<j)) j 0:Int)/\Hid (Below W.heap.size W wr)/\11-j<U);case atStart=>exact⟨0,r,rfl,rfl,rfl,u (Below.refl _ _),r⟩
 case round=>
  obtain⟨j,aS,rfl,rfl,rfl,bw,ae⟩:=hrel;by_cases q0:j<11
  ·have cE:((j:Int)-4)<=6:=r;have key:(((j:Int)-4 == -4)=true/\(⟨#[110,117,108,108]⟩:ByteArray)=ov j)\/(((j:Int)-4 == -4)=false/\im ((j:Int)-4)=ov j):=by
    by_cases aw:j=0
    ·left;subst aw;exact⟨rfl,rfl⟩
    ·right;refine⟨cV.2 r,?_⟩;unfold ov;rw[if_neg aw]
   have Al:Hid (∀c,nk c=ov j↔cls c=j):=u (fun c=>XA c j q0);have JU:=u (fun k (hk:k<bv) (aa:gU cD k=j)=>JW cD bv (fun _=>true) j k q0 hk aa rfl);have JX:=u (fun k (hk:k<bv) (aa:gU cD k=j) (hm:ox<j)=>JW cD bv (fun j=>decide (ox<j)) j k q0 hk aa (decide_eq_true hm));rcases key with⟨aY,hw⟩ | ⟨aY,hw⟩
   all_goals
    go_upto_region 18 with(first | (go_at_call 21;refine(vS.d _ j q0).mono ?_;rintro e bh ⟨rfl,rq⟩));have LW:=u (Below.fK bw.d rq.d);try rw[hw]
    clear hw;obtain⟨FR,rfl⟩:∃x,x=gk:=⟨_,rfl⟩;obtain⟨ih,rfl⟩:∃x,x=wr:=⟨_,rfl⟩;go_loopg [11,12,15,16,17] (bv+1) (fun U s0 s3 gr sv aE wr=>∃k:Nat,k<=bv/\gr=q (k:Int)/\s0=q (ey cD bv (fun _=>true) j k:Int)/\s3=q (ey cD bv (fun j=>decide (ox<j)) j k:Int)/\Hid (Below W.heap.size W wr)/\bv-k<U);case atStart=>exact⟨0,bu,rfl,rfl,rfl,LW,r⟩
    case round=>
     obtain⟨k,hk,rfl,rfl,rfl,lW,kL⟩:=hrel;by_cases Ks:k<bv
     ·have jl:k<cD.length:=r;have JR:(k:Int)<(cD.length:Int):=r;have atE:(k:Int)<12:=r;obtain⟨g2,off,rfl,bC,iV⟩:∃g off,a=some ⟨g,off,none⟩/\g<w.heap.size/\∀i (h:i<cD.length),w.cell? ⟨g,off+i*2,none⟩=some (q cD[i].1)/\w.cell? ⟨g,off+i*2+1,none⟩=some (q cD[i].2):=by
       rcases aqf.d with h | h
       ·rw[h] at jl;exact absurd jl (fp _)
       ·exact h
      obtain⟨bz,cz,-,-⟩:=AB.d _ (ec jl);have ko:cD.getD k (0,0)=cD[k]:=by rw[List.getD_eq_getElem?_getD,fC jl];rfl
      have ark:gU cD k=cls cD[k].1:=by unfold gU;rw[ko]
      have nc:wr.cell? ⟨g2,off+k*2,none⟩=some (q cD[k].1):=((Below.fK kO.d lW.d).cell (p:=⟨g2,off+k*2,none⟩) bC).trans (iV k jl).1;have q9:IntKind.i64.wrap ((k:Int)+2)=(k:Int)+2:=by rw[IntKind.wrap_i64];omega
      have q8:IntKind.i64.wrap ((k:Int)+1)=(k:Int)+1:=by rw[IntKind.wrap_i64];omega
      have aqh:=u (fun aU=>aoP cD[k].1 aU bz cz);clear iV ko bz cz;generalize cD[k].1=q2 at *;by_cases aa:cls q2=j
      ·have OL:=(Al.d q2).2 aa;go_upto_region 22 with(first | (go_at_call 23;refine(aqh.d _).mono ?_;rintro e cw ⟨rfl,p6⟩));have AV:ey cD bv (fun _=>true) j (k+1)=ey cD bv (fun _=>true) j k+1:=by rw[sm,if_pos ⟨ark.trans aa,rfl⟩]
       obtain⟨akB,AW⟩:=JU.d k Ks (ark.trans aa);have wx:=JZ cD bv (fun _=>true);obtain⟨bf,J0,Nj,PH,PI,rfl,p0,p1,p2,fw,pf⟩:=uP JQ.d akB AW;rw[show((k+2:Nat):Int)=(k:Int)+2 from r] at pf;have mC:RowKit.Below W.heap.size W (cw.alloc (.cells #[.string ⟨#[116]⟩,q ((k:Int)+2)] 47)):=(Below.fK lW.d p6).alloc (Below.fK lW.d p6).size _;have aX:=bH cw (.cells #[.string ⟨#[116]⟩,q ((k:Int)+2)] 47);have t0:=cell_grown (a:=⟨cw.heap.size,0,none⟩) (by rw[cc];exact Nat.lt_succ_self _) (Z aX (i:=0) rfl);have t1:=cell_grown (a:=⟨cw.heap.size,1,none⟩) (by rw[cc];exact Nat.lt_succ_self _) (Z aX (i:=1) rfl);have SI:=lh mC d7;have k6:=lh mC p0;have q1:=lh mC p1;have bN:=lh mC p2;have fR:=lh mC fw;have iK:=lh mC pf
       have ai:=fun n os=>PJ _ fL ((k:Int)+2) J0 Nj PH PI _ (bN n os) (fR n os) (iK n os);have hm:prog.follows .mixedOrders=true:=ax;have Ys:decide (((eq cD bv fun _=>true).length:Int)<=(ey cD bv (fun _=>true) j k:Int))=false:=decide_eq_false r;have Yt:decide ((eq cD bv fun _=>true).length<=ey cD bv (fun _=>true) j k)=false:=decide_eq_false r;have Yu:¬(eq cD bv fun _=>true).length<=ey cD bv (fun _=>true) j k:=r;have nM:(0:Int)<=(ey cD bv (fun _=>true) j k:Int):=r;have Lg:(ey cD bv (fun _=>true) j k:Int)<((eq cD bv fun _=>true).length:Int):=r;have Fj:IntKind.i64.wrap ((ey cD bv (fun _=>true) j k:Int)+1)=(ey cD bv (fun _=>true) j k:Int)+1:=by rw[IntKind.wrap_i64];omega
       have sy:=u AV;have BD:=u (ark.trans aa);have hT:=u mC;clear AV akB AW wx p0 p1 p2 fw pf aX mC bN fR iK nc aqh ark aa;go_upto_region 23 with fail;go_quiet_grown (first | (go_at_call 24;refine Calls.grown_of (ai _ _)));have u0:=t0 nq osq;have u1:=t1 nq osq;have oc:Hid (Below W.heap.size W (Sort.grow ((cw.alloc (.cells #[.string ⟨#[116]⟩,q ((k:Int)+2)] 47)).drewN nq) osq)):=u (Below.fK hT.d (IR _ _ _));clear t0 t1 SI k6 q1 ai hT;generalize Sort.grow ((cw.alloc (.cells #[.string ⟨#[116]⟩,q ((k:Int)+2)] 47)).drewN nq) osq=ath at *;generalize cw.heap.size=Yv at *;by_cases uO:ox<j
       ·have Wi:(ox:Int)-4<(j:Int)-4:=r;have alm:(-4:Int)<(j:Int)-4:=r;have C0:ey cD bv (fun j=>decide (ox<j)) j (k+1)=ey cD bv (fun j=>decide (ox<j)) j k+1:=by rw[sm,if_pos ⟨BD.d,decide_eq_true uO⟩]
        obtain⟨wB,rh⟩:=JX.d k Ks BD.d uO;have i6:=JZ cD bv (fun j=>decide (ox<j));obtain⟨ij,PK,PL,PM,PP,rfl,p0,p1,p2,fw,pf⟩:=uP JS.d wB rh;rw[show((k+2:Nat):Int)=(k:Int)+2 from r] at pf;have t0:=cell_grown (World.block_lt_of_cell? ath _ u0) u0;have t1:=cell_grown (World.block_lt_of_cell? ath _ u1) u1;have Yw:=lh oc.d d9;have k6:=lh oc.d p0;have q1:=lh oc.d p1;have bN:=lh oc.d p2;have fR:=lh oc.d fw;have iK:=lh oc.d pf;have ai:=fun n os=>PJ _ fL ((k:Int)+2) PK PL PM PP _ (bN n os) (fR n os) (iK n os);have Yx:decide ((eq cD bv fun j=>decide (ox<j)).length<=ey cD bv (fun j=>decide (ox<j)) j k)=false:=decide_eq_false r
        have Yy:¬(eq cD bv fun j=>decide (ox<j)).length<=ey cD bv (fun j=>decide (ox<j)) j k:=r;have aeA:(0:Int)<=(ey cD bv (fun j=>decide (ox<j)) j k:Int):=r;have oE:(ey cD bv (fun j=>decide (ox<j)) j k:Int)<((eq cD bv fun j=>decide (ox<j)).length:Int):=r;have tj:IntKind.i64.wrap ((ey cD bv (fun j=>decide (ox<j)) j k:Int)+1)=(ey cD bv (fun j=>decide (ox<j)) j k:Int)+1:=by rw[IntKind.wrap_i64];omega
        have ph:=u C0;clear C0 wB rh i6 p0 p1 p2 fw pf bN fR iK;go_upto_region 27 with fail;go_quiet_grown (first | (go_at_call 24;refine Calls.grown_of (ai _ _)));go_wp2_with fail;go_roundg (gk-1);case measure=>omega
        case rel=>exact⟨k+1,r,by go_num,congrArg (Value.int .i64) (by rw[sy.d];omega),congrArg (Value.int .i64) (by rw[ph.d];omega),u (Below.fK oc.d (IR _ _ _)),r⟩
       ·have Wi:¬(ox:Int)-4<(j:Int)-4:=r;have YA:(j:Int)-4<=(ox:Int)-4:=r;have ph:Hid (ey cD bv (fun j=>decide (ox<j)) j (k+1)=ey cD bv (fun j=>decide (ox<j)) j k):=u (by rw[sm,if_neg (fun h=>uO (of_decide_eq_true h.2))];rfl);go_wp2_with fail;go_roundg (gk-1);case measure=>omega
        case rel=>exact⟨k+1,r,by go_num,congrArg (Value.int .i64) (by rw[sy.d];omega),congrArg (Value.int .i64) (by rw[ph.d]),oc,r⟩
      ·have OL:¬nk q2=ov j:=fun h=>aa ((Al.d q2).1 h);have fE:((nk q2).toList==(ov j).toList)=false:=by rw[ByteArray.toList_eq,ByteArray.toList_eq,cV];exact fun e=>OL (ZX e)
       have sy:Hid (ey cD bv (fun _=>true) j (k+1)=ey cD bv (fun _=>true) j k):=u (by rw[sm,if_neg (fun h=>aa (ark.symm.trans h.1))];rfl);have ph:Hid (ey cD bv (fun j=>decide (ox<j)) j (k+1)=ey cD bv (fun j=>decide (ox<j)) j k):=u (by rw[sm,if_neg (fun h=>aa (ark.symm.trans h.1))];rfl);clear ark aa;go_wp2_with (first | (go_at_call 23;refine(aqh.d _).mono ?_;rintro e cw ⟨rfl,p6⟩));go_roundg (gk-1);case measure=>omega
       case rel=>exact⟨k+1,r,by go_num,congrArg (Value.int .i64) (by rw[sy.d]),congrArg (Value.int .i64) (by rw[ph.d]),u (Below.fK lW.d p6),r⟩
     ·have xC:k=bv:=r;subst xC;have C6:=u (PQ cD k (fun _=>true) j);have Gb:=u (PQ cD k (fun j=>decide (ox<j)) j);have vt:IntKind.i64.wrap ((j:Int)-4+1)=(j:Int)-4+1:=by rw[IntKind.wrap_i64];omega
      by_cases YB:cD.length<=12
      ·have vq:¬(k:Int)<(cD.length:Int):=r;have Y0:(cD.length:Int)<=(k:Int):=r;go_wp2_with fail;go_roundg (FR-1);case measure=>omega
       case rel=>exact⟨j+1,r,by go_num,congrArg (Value.int .i64) (by rw[C6.d]),congrArg (Value.int .i64) (by rw[Gb.d]),lW,r⟩
      ·have vq:(k:Int)<(cD.length:Int):=r;have Y0:¬(k:Int)<12:=r;have apy:(12:Int)<=(k:Int):=r;go_wp2_with fail;go_roundg (FR-1);case measure=>omega
       case rel=>exact⟨j+1,r,by go_num,congrArg (Value.int .i64) (by rw[C6.d]),congrArg (Value.int .i64) (by rw[Gb.d]),lW,r⟩
  ·have lv:j=11:=r;subst lv;have wj:=(bw.d.cell (p:=⟨JO,0,none⟩) (World.block_lt_of_cell? W _ d7)).trans d7;have kX:=(bw.d.cell (p:=⟨JP,0,none⟩) (World.block_lt_of_cell? W _ d9)).trans d9;have c1:=PU cD bv (fun _=>true);have c2:=PU cD bv (fun j=>decide (ox<j));simp only[c1,c2];go_wp2_with fail;go_ret;exact⟨rfl,Below.fK kO.d bw.d⟩
end Go.Proofs.YtbkeflgafjnefaaGreatDoor
