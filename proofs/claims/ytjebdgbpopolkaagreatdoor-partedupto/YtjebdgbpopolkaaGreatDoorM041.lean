import Derived.Test.YtjebdgbpopolkaaGreatDoorM039
import Derived.Test.YtjebdgbpopolkaaGreatDoorM040
set_option maxHeartbeats 0
set_option maxRecDepth 100000
set_option linter.all false
namespace Go.Proofs.YtjebdgbpopolkaaGreatDoor
open Tryz
open bS
variable{s:ni}{eH cU:e6}{ts:e4}{e t:aL}{W aU w:World}{a:Option Addr}{N b c i n:Nat}{F:Nat->Prop}{v:Value}{B:List bG}{m O:Int}{V:lh}{iy:bG}{j:qh}
def fL:e6:=⟨#[116]⟩
def hS:e6:=⟨#[117]⟩
def F8:e6:=⟨#[120,58,105,44,121,58,116]⟩
def CU:e6:=⟨#[115,101,108,101,99,116,32,97,46,120,44,32,97,46,121,32,102,114,111,109,32,116,32,97]⟩
def CV:e6:=⟨#[115,101,108,101,99,116,32,97,46,120,32,102,114,111,109,32,116,32,97]⟩
def mA:List (e6×Nat):=[(⟨#[120]⟩,1),(⟨#[121]⟩,2)]
def PE:lL Eb fL F8=(0,⟨[⟨fL,mA,[],0⟩],0⟩):=ax
def Yb:mF ⟨[⟨fL,mA,[],0⟩],0⟩ fL [⟨#[55]⟩,⟨#[39,113,39]⟩]=(1,0,⟨[⟨fL,mA,[(1,[⟨1,7,[]⟩,⟨2,0,[113]⟩])],1⟩],0⟩):=ax
def Yc:pz ⟨[⟨fL,mA,[(1,[⟨1,7,[]⟩,⟨2,0,[113]⟩])],1⟩],0⟩ fL 1=(0,⟨[⟨fL,mA,[],1⟩],0⟩):=ax
def t1:aL:=((hC CU).getD ([],.nil)).2
def t2:aL:=((hC CV).getD ([],.nil)).2
def aoR:hC CU=some (((hC CU).getD ([],.nil)).1,t1):=ax
def aoS:hC CV=some (((hC CV).getD ([],.nil)).1,t2):=ax
def r9:List bG:=[⟨fL,mA,[(1,[⟨1,7,[]⟩,⟨2,0,[113]⟩])],1⟩]
def vI:List bG:=[⟨fL,mA,[],1⟩]
def aoT:hN (pq r9) CU=0:=ax
def aoU:hN (pq vI) CV=0:=ax
def aoV:(bR r9 0 t1 [] nG).2.1=[([⟨1,7,[]⟩,⟨2,0,[113]⟩],[[(1,[⟨1,7,[]⟩,⟨2,0,[113]⟩])]])]:=ax
def aoW:(bR r9 0 t1 [] nG).2.2.dE=false:=ax
def aoX:(bR vI 0 t2 [] nG).2.1=[]:=ax
def aoY:(bR vI 0 t2 [] nG).2.2.dE=false:=ax
def aoZ:iO (eM t1) [[(1,[⟨1,7,[]⟩,⟨2,0,[113]⟩])]] (eM t1).length=[(fL,1)]:=ax
def Yd{α:Type}(ew:α->α->Int)(a:α):kM ew [a]=[a]:=by unfold kM;exact List.mergeSort_singleton a
def Ye{α:Type}(ew:α->α->Int):kM ew ([]:List α)=[]:=by unfold kM;exact List.mergeSort_nil
def ao0(t:fo):p7 [t]=[t]:=rfl
def Yf(t:fo):hj [[t]]=[t]:=by unfold hj;rw[show([[t]]:List (List fo)).flatten=[t] from rfl,Yd,ao0]
def JH:List l7:=[([⟨#[55]⟩,⟨#[39,113,39]⟩],[(fL,1)])]
def ao1:oK r9 0 (eM t1) t1=some JH:=by unfold oK;rw[aoW,aoV,if_neg K,List.map_cons,List.map_nil];unfold lG;simp only[];rw[aoZ,Yf,Yd];kernel_rfl
def ao2:oK vI 0 (eM t2) t2=some []:=by unfold oK;rw[aoY,aoX,if_neg K,List.map_nil,Ye];rfl
def JI:ni:=⟨⟨r9,0⟩,⟨[],[],0⟩,[],0⟩
def JJ:ni:=⟨⟨vI,0⟩,nh hS 0 [(fL,1)] ⟨[],[],0⟩,[],0⟩
def AT:ni:=⟨⟨vI,0⟩,nh hS 0 [] (nh hS 0 [(fL,1)] ⟨[],[],0⟩),[],0⟩
def Yg{f:qh->n9->Bool}{out:List l7}(h1:¬(cU.data.toList=[]\/jf cU.data.toList=false))(H:hN (pq s.ck.bY) eH=0)(ab:hC eH=some (ts,t))(aK:oK s.ck.bY s.ck.dS (eM t) t=some out)(cO:s.ce.count<60)(cE:s.nj=[]):gE f s cU eH=⟨0,0,out,{s with ce:=nh cU s.ck.dS (hj (out.map (·.2))) s.ce}⟩:=by unfold gE;rw[if_neg h1,if_neg (by rw[H];exact fun h=>h rfl),ab];simp only[];rw[aK];simp only[];rw[if_neg r,cE,if_neg (fun h=>h rfl)]
def ao3:hj []=[]:=by unfold hj;rw[show([]:List (List fo)).flatten=[] from rfl,Ye];rfl
def ao4(f:qh->n9->Bool):gE f JI hS CU=⟨0,0,JH,⟨⟨r9,0⟩,nh hS 0 [(fL,1)] ⟨[],[],0⟩,[],0⟩⟩:=by have h:=Yg (f:=f) (s:=JI) (cU:=hS) K aoT aoR ao1 K rfl;have hu:hj (JH.map (·.2))=[(fL,1)]:=Yf _;rw[hu] at h;exact h
def ao5(f:qh->n9->Bool):gE f JJ hS CV=⟨0,0,[],AT⟩:=by have h:=Yg (f:=f) (s:=JJ) (cU:=hS) K aoU aoS ao2 K rfl;rw[show(([]:List l7).map (·.2))=[] from rfl,ao3] at h;exact h
open Go.RowKit Go.Sort Go.Shelf
def PF{lo:Nat}{l:e4}(h:w.ownsRow lo 9 1 (.slice a n c) l.length (l.map Value.string))(i:Nat)(hi:i<l.length):∃g,a=some ⟨g,0,none⟩/\g<w.heap.size/\dp w g i=some (.string l[i]):=by obtain⟨nB,e7,e⟩:=cG h;injection e with Y am bm;subst Y am bm;obtain⟨g,e,R⟩:=vA h r;subst e;have bk:=h.cells rfl i (.string l[i]) (by rw[List.getElem?_map,fC hi];rfl);rw[Addr.add_lit,ax1] at bk;exact⟨g,rfl,R,bk⟩
def F9{t:TypeId}(h:t=37\/t=9\/t=40\/t=30):¬oM t:=by unfold oM;rcases h with rfl | rfl | rfl | rfl<;>decide
structure ki (W aU:World):Prop where
 size:W.heap.size<=aU.heap.size
 other:∀(k:Nat) (cs:Array Value) (t:TypeId) (m:Nat×Nat),W.heap[k]?=some (.cells cs t m)->¬oM t->aU.heap[k]?=some (.cells cs t m)
def ki.of(h:da F W aU)(hF:∀k,F k->oN W k/\8<=k):ki W aU:=⟨h.size,fun k cs t m e ar=>by
 refine(h.block k (jq e) (fun hk=>?_)).trans e;obtain⟨⟨fU,ne,pQ,bo,Es⟩,_⟩:=hF k hk;rw[e] at bo;injection bo with bo;injection bo with _ bo;exact ar (bo▸Es)⟩
def ki.below(h:eB W aU):ki W aU:=⟨h.size,fun _ _ _ _ e _=>Below.a8 h e⟩
def ki.trans{a b c:World}(h:ki a b)(g:ki b c):ki a c:=⟨bX h.size g.size,fun k cs t m e ar=>g.other k cs t m (h.other k cs t m e ar) ar⟩
def ki.row(h:ki W aU){base:Nat}{e:TypeId}{size:Nat}{xs:List Value}(ar:¬oM e)(ag:W.ownsRow base e size v n xs):aU.ownsRow base e size v n xs:=by
 refine⟨ag.1,?_⟩;rcases ag.2 with aa | ⟨g,af,ay,rfl,X,en,rest⟩
 ·exact .inl aa
 ·exact .inr ⟨g,af,ay,rfl,X,h.other _ _ _ _ en ar,rest⟩
def ki.out{W aU:World}(h:ki W aU){v:Value}{out:List l7}(ct:fW 0 W v out):fW 0 aU v out:=by obtain⟨bE,h1,H,ab⟩:=ct;exact⟨bE,h.row (F9 (.inl rfl)) h1,H,fun i a b=>⟨h.row (F9 (.inr (.inl rfl))) (ab i a b).1,h.row (F9 (.inr (.inr (.inl rfl)))) (ab i a b).2⟩⟩
structure gF (w:World) (b:Nat) (s:ni) (W:World):Prop where
 own:∃F,nH F W b s/\∀k,F k->w.heap.size<=k
 ho:eB w W
 xo:Ground W
def gF.below{w W aU:World}{b:Nat}{s:ni}(h:gF w b s W)(A:eB W aU):gF w b s aU:=by obtain⟨⟨F,h1,H⟩,ab,aK⟩:=h;exact⟨⟨F,h1.aside (G:=fun _=>False) ⟨A.os,A.tape,A.output,A.size,fun k hk _=>A.block k hk⟩ (fun _ _=>id),H⟩,Below.fK ab A,aK.below A⟩
def gF.call{fu:ni}(aw:∀k,F k->oN W k/\8<=k)(hF:∀k,F k->w.heap.size<=k)(A:eB w W)(R:Ground W)(bi:vE F W b fu aU):gF w b fu aU/\ki W aU:=by
 obtain⟨F',aI,aZ,a6⟩:=bi;refine⟨⟨⟨F',aI,fun U ae=>?_⟩,⟨a6.os.trans A.os,a6.tape.trans A.tape,a6.output.trans A.output,bX A.size a6.size,fun U ae=>?_⟩,R.anx a6 (fun U ae=>(aw U ae).2)⟩,ki.of a6 aw⟩
 ·rcases aZ U ae with h | h
  ·exact hF U h
  ·exact bX A.size h
 ·exact(a6.block U (e0 ae A.size) (fun x=>by have:=hF U x;omega)).trans (A.block U ae)
def ao6(h:gF w b s W)(ok:hA N s.ck)(name bl:e6)(ar:name.size<=2000000)(ai:bl.size<=2000000):ey 13 #[M b,.string name,.string bl] W fun e aU=>e=.returned (q ((lL s.ck name bl).1:Int))/\Hid (gF w b {s with ck:=(lL s.ck name bl).2} aU/\ki W aU):=by obtain⟨⟨F,h1,H⟩,ab,aK⟩:=h;refine(ant h1 aK.uJ.js ok aK.uJ name bl ar ai).mono ?_;rintro e aU ⟨rfl,bi⟩;exact⟨rfl,u (gF.call h1.1 H ab aK bi)⟩
def Yh(h:gF w b s W)(ok:hA N s.ck)(cS:N<=1000000000)(name:e6)(U af:Nat)(ba:e4)(hv:zG W U ba)(ae:U<W.heap.size)(X:ba.length<=2000000)(hs:∀t∈ba,t.size<=2000000):ey 14 #[M b,.string name,.slice (some ⟨U,0,none⟩) ba.length af] W fun e aU=>e=.returned (.tuple #[q ((mF s.ck name ba).1:Int),q ((mF s.ck name ba).2.1:Int)])/\Hid (gF w b {s with ck:=(mF s.ck name ba).2.2} aU/\ki W aU):=by obtain⟨⟨F,h1,H⟩,ab,aK⟩:=h;refine(anu h1 aK.uJ.js ok cS name U af ba hv ae X hs).mono ?_;rintro e aU ⟨rfl,bi⟩;exact⟨rfl,u (gF.call h1.1 H ab aK bi)⟩
def ao7(h:gF w b s W)(ok:hA N s.ck)(name:e6)(m:Int):ey 15 #[M b,.string name,q m] W fun e aU=>e=.returned (q ((pz s.ck name m).1:Int))/\Hid (gF w b {s with ck:=(pz s.ck name m).2} aU/\ki W aU):=by obtain⟨⟨F,h1,H⟩,ab,aK⟩:=h;refine(anv h1 aK.uJ.js ok name m).mono ?_;rintro e aU ⟨rfl,bi⟩;exact⟨rfl,u (gF.call h1.1 H ab aK bi)⟩
def Yi(h:gF w b s W)(ok:hA N s.ck)(fit:lw s.ck)(cU eH:e6)(hu:cU.size<=1000000)(oE:s.ce.log.length<=10000)(kv:s.ce.ng.length<=800000)(wq:s.ce.count<=1000000)(aj:s.nj=[]):ey 7 #[M b,.string cU,.string eH] W fun e aU=>∃a n c,e=.returned (.tuple #[.agg #[.slice a n c,q ((gE (fun _ _=>false) s cU eH).Jt:Int)],q ((gE (fun _ _=>false) s cU eH).qk:Int)])/\Hid (fW 0 aU (.slice a n c) (gE (fun _ _=>false) s cU eH).out/\gF w b (gE (fun _ _=>false) s cU eH).FX aU/\ki W aU):=by
 obtain⟨⟨F,h1,H⟩,ab,aK⟩:=h;refine(XV (fun _ _=>false) h1 ok fit aK cU eH hu oE kv wq (by rw[aj];exact bu) (fun p AK=>by rw[aj] at AK;cases AK)).mono ?_;rintro e aU ⟨a,n,c,rfl,ct,bi⟩;exact⟨a,n,c,rfl,u ⟨ct,gF.call h1.1 H ab aK bi⟩⟩
def ao8(w:World)(R:Ground w):ey 12 #[] w fun e W=>∃b,e=.returned (M b)/\Hid (gF w b Js W):=by refine(anw w R.uJ.js).mono ?_;rintro e W ⟨k,F,rfl,h1,H,ab⟩;exact⟨k,rfl,u ⟨⟨F,h1,H⟩,ab,R.below ab⟩⟩
def JK(k:Nat):e6:=if 10<=k then JG else im ((k:Int)-3)
def JL(k:Nat):e6:=if k=5 then JG else a7 (39::(([97,98,99,100,101]:List UInt8).take k++[39]))
def ao9:∀k,k<12->(fy (JK k).data.toList).2=true/\((fy (JK k).data.toList).1.kind=0\/(fy (JK k).data.toList).1.kind=1)/\(JK k).size<=30:=by decide +kernel
def apa:∀k,k<6->(fy (JL k).data.toList).2=true/\((fy (JL k).data.toList).1.kind=0\/(fy (JL k).data.toList).1.kind=2)/\(JL k).size<=30:=by decide +kernel
def CW(c:Int):al:=(fy (nk c).data.toList).1
def CX(c:Int):al:=(fy (nl c).data.toList).1
def Yj(c:Int):bS.valOf (nk c)=some (CW c)/\((CW c).kind=0\/(CW c).kind=1)/\(nk c).size<=30:=by have h:=ao9 (qZ c 12) (F7 K).2;refine⟨?_,h.2.1,h.2.2⟩;unfold bS.valOf;have h1:(fy (nk c).data.toList).2=true:=h.1;rw[h1,if_pos rfl];rfl
def Yk(c:Int):bS.valOf (nl c)=some (CX c)/\((CX c).kind=0\/(CX c).kind=2)/\(nl c).size<=30:=by have h:=apa (qZ c 6) (F7 K).2;refine⟨?_,h.2.1,h.2.2⟩;unfold bS.valOf;have h1:(fy (nl c).data.toList).2=true:=h.1;rw[h1,if_pos rfl];rfl
def AU(cD:List (Int×Int)):Nat->je
 | 0=>[]
 | k+1=>AU cD k++[(k+2,[CW (cD.getD k (0,0)).1,CX (cD.getD k (0,0)).2])]
def Yl(cD:List (Int×Int)):∀k,(AU cD k).length=k
 | 0=>rfl
 | k+1=>by rw[AU,cu,Yl cD k];rfl
def uM(cD:List (Int×Int))(k:Nat):hG:=⟨[⟨fL,mA,AU cD k,k+1⟩],0⟩
def mB(cD:List (Int×Int))(k:Nat):ni:=⟨uM cD k,AT.ce,[],0⟩
def Ym(cD:List (Int×Int))(k:Nat)(hk:k<12):mF (uM cD k) fL [nk (cD.getD k (0,0)).1,nl (cD.getD k (0,0)).2]=(k+2,0,uM cD (k+1)):=by
 have av:fD (uM cD k).bY fL=some 0:=by unfold uM fD;rfl
 have bi:od ⟨fL,mA,AU cD k,k+1⟩ [nk (cD.getD k (0,0)).1,nl (cD.getD k (0,0)).2]=(k+2,0,⟨fL,mA,AU cD (k+1),k+2⟩):=by
  obtain⟨bM,b9,_⟩:=Yj (cD.getD k (0,0)).1;obtain⟨J,S,_⟩:=Yk (cD.getD k (0,0)).2;unfold od;rw[if_pos (show [nk (cD.getD k (0,0)).1,nl (cD.getD k (0,0)).2].length=mA.length from rfl)];have ak:iq bS.valOf [nk (cD.getD k (0,0)).1,nl (cD.getD k (0,0)).2]=some [CW (cD.getD k (0,0)).1,CX (cD.getD k (0,0)).2]:=by rw[iq,bM,iq,J,iq];rfl
  rw[ak];have au:q7 [CW (cD.getD k (0,0)).1,CX (cD.getD k (0,0)).2] mA=true:=by unfold mA;rw[q7,q7,q7];rcases b9 with e | e<;>rcases S with bo | bo<;>rw[e,bo]<;>rfl
  simp only[];rw[au,if_pos rfl,if_neg (by rw[Yl];omega)];rfl
 rw[Ht av (by show 0<1;omega)];have R:(uM cD k).bY[0]'(by show 0<1;omega)=⟨fL,mA,AU cD k,k+1⟩:=rfl;rw[R,bi];rfl
def PG(cD:List (Int×Int)):∀k,k<=12->hA (k+1) (uM cD k)/\lw (uM cD k)
 | 0,_=>by
  refine⟨⟨by show 1<=6;omega,fun t au=>?_,by show(0:Int)<=0;omega,by show(0:Int)<=1000000000000;omega⟩,fun t au=>?_⟩
  ·obtain rfl:=ic (show t∈[_] from au);exact⟨by show 1<=2;omega,by show 2<=4;omega,bu,ap,fun c ai=>by
    have k4:c∈mA:=ai;unfold mA at k4;rcases List.mem_cons.1 k4 with rfl | k4
    ·exact .inl rfl
    ·obtain rfl:=ic k4;exact .inr rfl⟩
  ·obtain rfl:=ic (show t∈[_] from au);exact⟨fun C ag=>absurd ag (ax4),(show iP fL.data.toList=true by decide),fun C ag=>absurd ag (ax4)⟩
 | k+1,h=>by obtain⟨h1,H⟩:=PG cD k r;have e:=Ym cD k r;have ab:=h1.insert fL [nk (cD.getD k (0,0)).1,nl (cD.getD k (0,0)).2];have aK:=H.insert fL [nk (cD.getD k (0,0)).1,nl (cD.getD k (0,0)).2];rw[e] at ab aK;exact⟨ab,aK⟩
def CY(w:World)(v:Value)(l:List (Int×Int)):Prop:=(∃a af,v=.slice a l.length af/\(l=[]\/∃g off,a=some ⟨g,off,none⟩/\g<w.heap.size/\∀i (h:i<l.length),dp w g (off+i*2)=some (q l[i].1)/\dp w g (off+i*2+1)=some (q l[i].2)))/\l.length<=1048576/\∀x∈l,-9223372036854775808<=x.1/\x.1<=9223372036854775807/\-9223372036854775808<=x.2/\x.2<=9223372036854775807
def YL:hA 5 (⟨[⟨fL,mA,[],0⟩],0⟩:hG):=by have:=(hA.zero 5).create fL F8;rw[PE] at this;exact this
def Gc:hA 6 (⟨r9,0⟩:hG)/\lw (⟨r9,0⟩:hG):=by have h1:=YL.insert fL [⟨#[55]⟩,⟨#[39,113,39]⟩];have H:=(lw.zero.create fL F8).insert fL [⟨#[55]⟩,⟨#[39,113,39]⟩];rw[PE] at H;rw[Yb] at h1 H;exact⟨h1,H⟩
def YM:hA 6 (⟨vI,0⟩:hG)/\lw (⟨vI,0⟩:hG):=by have h1:=Gc.1.delete fL 1;have H:=Gc.2.delete fL 1;have e:pz (⟨r9,0⟩:hG) fL 1=(0,⟨vI,0⟩):=Yc;rw[e] at h1 H;exact⟨h1,H⟩
def YN{g:Nat}{x y:e6}(h:w.heap[g]?=some (.cells #[.string x,.string y] 9 (0,0))):zG w g [x,y]:=fun i hi=>by
 have H:i=0\/i=1:=by simp at hi;omega
 rcases H with rfl | rfl
 ·exact Z h (i:=0) rfl
 ·exact Z h (i:=1) rfl
def YO(cD:List (Int×Int))(uN:Value)(w:World)(dh:Ground w)(hit:CY w uN cD):ey 5 #[uN] w fun e w'=>∃b,e=.returned (M b)/\gF w b (mB cD (min cD.length 12)) w':=by
 obtain⟨⟨a,af,rfl,hit⟩,b7,k7⟩:=hit;have aqf:=u hit;have AB:=u k7;have YP:=u (ao8 w dh);have YQ:Hid (∀W b,gF w b Js W->ey 13 #[M b,.string ⟨#[116]⟩,.string ⟨#[120,58,105,44,121,58,116]⟩] W fun e aU=>e=.returned (q 0)/\Hid (gF w b ⟨⟨[⟨fL,mA,[],0⟩],0⟩,⟨[],[],0⟩,[],0⟩ aU)):=u (fun W b h=>by
  have:=ao6 h (hA.zero 5) fL F8 K K;refine this.mono ?_;rintro e aU ⟨rfl,hk⟩;have gi:=hk.out.1;have c7:lL Js.ck fL F8=(0,⟨[⟨fL,mA,[],0⟩],0⟩):=PE;rw[c7] at gi ⊢;exact⟨rfl,u gi⟩)
 have YR:Hid (∀W b,gF w b ⟨⟨[⟨fL,mA,[],0⟩],0⟩,⟨[],[],0⟩,[],0⟩ W->ey 14 #[M b,.string ⟨#[116]⟩,.slice (some ⟨W.heap.size,0,none⟩) 2 2] (W.alloc (.cells #[.string ⟨#[55]⟩,.string ⟨#[39,113,39]⟩] 9)) fun e aU=>e=.returned (.tuple #[q 1,q 0])/\Hid (gF w b JI aU)):=u (fun W b h=>by
  have dF:=(Below.refl W.heap.size W).alloc ap (.cells #[.string ⟨#[55]⟩,.string ⟨#[39,113,39]⟩] 9);have qy:=bH W (.cells #[.string ⟨#[55]⟩,.string ⟨#[39,113,39]⟩] 9);have:=Yh (h.below dF) YL K fL W.heap.size 2 [⟨#[55]⟩,⟨#[39,113,39]⟩] (YN qy) (jq qy) K K;refine this.mono ?_;rintro e aU ⟨rfl,hk⟩;have gi:=hk.out.1;have c7:mF ⟨[⟨fL,mA,[],0⟩],0⟩ fL [⟨#[55]⟩,⟨#[39,113,39]⟩]=(1,0,⟨r9,0⟩):=Yb;rw[c7] at gi ⊢;exact⟨rfl,u gi⟩)
 have C3:Hid (∀W b,gF w b JI W->ey 7 #[M b,.string ⟨#[117]⟩,.string ⟨#[115,101,108,101,99,116,32,97,46,120,44,32,97,46,121,32,102,114,111,109,32,116,32,97]⟩] W fun e aU=>∃dc de,e=.returned (.tuple #[.agg #[.slice dc 1 de,q 0],q 0])/\Hid (fW 0 aU (.slice dc 1 de) JH/\gF w b ⟨⟨r9,0⟩,nh hS 0 [(fL,1)] ⟨[],[],0⟩,[],0⟩ aU)):=u (fun W b h=>by
  refine(Yi h Gc.1 Gc.2 hS CU K K K K rfl).mono ?_;rintro e aU ⟨dc,on,de,rfl,hk⟩;obtain⟨ct,bZ,_⟩:=hk.out;rw[ao4] at ct bZ ⊢;have PR:on=1:=by obtain⟨bE,C,am,_⟩:=id ct;obtain⟨nB,e7,Y⟩:=cG C;injection Y with _ Y _;rw[Y,am];rfl
  subst PR;exact⟨dc,de,rfl,u ⟨ct,bZ⟩⟩)
 have C1:Hid (∀W b,gF w b ⟨⟨r9,0⟩,nh hS 0 [(fL,1)] ⟨[],[],0⟩,[],0⟩ W->ey 15 #[M b,.string ⟨#[116]⟩,q 1] W fun e aU=>e=.returned (q 0)/\Hid (gF w b JJ aU/\ki W aU)):=u (fun W b h=>by
  refine(ao7 h Gc.1 fL 1).mono ?_;rintro e aU ⟨rfl,hk⟩;have gi:=hk.out;have c7:pz (⟨r9,0⟩:hG) fL 1=(0,⟨vI,0⟩):=Yc;rw[c7] at gi ⊢;exact⟨rfl,u gi⟩)
 have vD:Hid (∀W b,gF w b JJ W->ey 7 #[M b,.string ⟨#[117]⟩,.string ⟨#[115,101,108,101,99,116,32,97,46,120,32,102,114,111,109,32,116,32,97]⟩] W fun e aU=>∃dc de,e=.returned (.tuple #[.agg #[.slice dc 0 de,q 0],q 0])/\Hid (gF w b AT aU/\ki W aU)):=u (fun W b h=>by
  refine(Yi h YM.1 YM.2 hS CV K K K K rfl).mono ?_;rintro e aU ⟨dc,on,de,rfl,hk⟩;obtain⟨ct,bZ⟩:=hk.out;rw[ao5] at ct bZ ⊢;have PR:on=0:=by obtain⟨bE,C,am,_⟩:=id ct;obtain⟨nB,e7,Y⟩:=cG C;injection Y with _ Y _;rw[Y,am];rfl
  subst PR;exact⟨dc,de,rfl,u bZ⟩)
 clear dh hit k7;go_enter func5,ntmps5;go_upto_region 7 with(first
  | (go_at_call 7;refine(C3.out aA b l2.out).mono ?_;rintro e bI ⟨dc,de,rfl,l9⟩)
  | (go_at_call 14;refine(YR.out S b iH.out).mono ?_;rintro e aA ⟨rfl,l2⟩)
  | (go_at_call 13;refine(YQ.out J b H1.out).mono ?_;rintro e S ⟨rfl,iH⟩)
  | (go_at_call 12;refine YP.out.mono ?_;rintro e J ⟨b,rfl,H1⟩))
 go_upto_region 9 with(first
  | (go_at_call 7;refine(vD.out bh b rq.out.1).mono ?_;rintro e cw ⟨rl,vL,rfl,p6⟩)
  | (go_at_call 15;refine(C1.out _ b (l9.out.2.below cT)).mono ?_;rintro e bh ⟨rfl,rq⟩))
 have PS:Hid (gF w b AT (cw.alloc (.cells #[.slice rl 0 vL,q 0] 30))):=u (p6.out.1.below cT);obtain⟨g,aC,bA,ib,rfl,rfl,d0,d1,d2,d3,d4⟩:∃g aC bA ib,dc=some ⟨g,0,none⟩/\aC=some ⟨ib,0,none⟩/\(cw.alloc (.cells #[.slice rl 0 vL,q 0] 30)).cell? ⟨bI.heap.size,0,none⟩=some (.slice dc 1 de)/\(cw.alloc (.cells #[.slice rl 0 vL,q 0] 30)).cell? ⟨g,0,none⟩=some (.slice aC 2 bA)/\(cw.alloc (.cells #[.slice rl 0 vL,q 0] 30)).cell? ⟨ib,0,none⟩=some (.string ⟨#[55]⟩)/\(cw.alloc (.cells #[.slice rl 0 vL,q 0] 30)).cell? ⟨ib,1,none⟩=some (.string ⟨#[39,113,39]⟩)/\(cw.alloc (.cells #[.slice rl 0 vL,q 0] 30)).cell? ⟨cw.heap.size,0,none⟩=some (.slice rl 0 vL):=by
  have av:ki (bI.alloc (.cells #[.slice dc 1 de,q 0] 30)) (cw.alloc (.cells #[.slice rl 0 vL,q 0] 30)):=(rq.out.2.trans p6.out.2).trans (ki.below cT);have fA:=av.other _ _ _ _ (bH bI _) (F9 (.inr (.inr (.inr rfl))));have ct:=av.out (l9.out.1.below ((Below.refl _ _).alloc ap (.cells #[.slice dc 1 de,q 0] 30)));obtain⟨bE,C,am,k⟩:=ct;have kz:bE.length=1:=am;have lK:(cw.alloc (.cells #[.slice rl 0 vL,q 0] 30)).ownsRow 0 37 2 (.slice dc bE.length de) bE.length (bE.flatMap CH):=by rw[kz] at C ⊢;exact C
  obtain⟨g,eX,R,bk,c1⟩:=Ps lK 0 r;obtain⟨aI,_⟩:=k 0 r (by show 0<1;omega);obtain⟨aC,bA,Y⟩:=cG aI;rw[Y] at bk aI;obtain⟨ib,ev,_,nc⟩:=PF (l:=[⟨#[55]⟩,⟨#[39,113,39]⟩]) aI 0 (by show 0<2;omega);obtain⟨atD,C4,_,s1⟩:=PF (l:=[⟨#[55]⟩,⟨#[39,113,39]⟩]) aI 1 (by show 1<2;omega);rw[ev] at C4;injection C4 with C4;injection C4 with C4;subst C4;exact⟨g,aC,bA,ib,eX,ev,Z fA (i:=0) rfl,bk,nc,s1,Z (bH cw _) (i:=0) rfl⟩
 generalize cw.alloc (.cells #[.slice rl 0 vL,q 0] 30)=YS at *;clear YP YQ YR C3 C1 vD H1 iH l2 l9 rq p6;go_upto_region 12 with fail;clear d0 d1 d2 d3 d4;have H4:Hid (gF w b (mB cD 0) YS):=u PS.out;have kO:Hid (eB w YS):=u PS.out.ho;clear PS;go_loopg [5,6,12] 13 (fun U Ya kr gr wr=>∃k:Nat,gr=q (k:Int)/\k<=cD.length/\k<=12/\Hid (gF w b (mB cD k) wr)/\12-k<U);case atStart=>exact⟨0,rfl,bu,bu,H4,r⟩
 case round=>
  obtain⟨k,rfl,bZ,dR,e1,ae⟩:=hrel;by_cases jl:k<cD.length
  ·by_cases I4:k<12
   ·have JR:(k:Int)<(cD.length:Int):=r;have atE:(k:Int)<12:=r;obtain⟨g2,off,rfl,bC,iV⟩:∃g off,a=some ⟨g,off,none⟩/\g<w.heap.size/\∀i (h:i<cD.length),dp w g (off+i*2)=some (q cD[i].1)/\dp w g (off+i*2+1)=some (q cD[i].2):=by
     rcases aqf.out with h | h
     ·rw[h] at jl;exact absurd jl (fp _)
     ·exact h
    obtain⟨bz,cz,fP,mq⟩:=AB.out _ (ec jl);have ko:cD.getD k (0,0)=cD[k]:=by rw[List.getD_eq_getElem?_getD,fC jl];rfl
    have PT:Hid (mF (uM cD k) fL [nk cD[k].1,nl cD[k].2]=(k+2,0,uM cD (k+1))):=u (by have:=Ym cD k I4;rw[ko] at this;exact this);have uu:Hid (∀W,eB w W->dp W g2 (off+k*2)=some (q cD[k].1)/\dp W g2 (off+k*2+1)=some (q cD[k].2)):=u (fun W A=>⟨(A.cell (p:=⟨g2,off+k*2,none⟩) bC).trans (iV k jl).1,(A.cell (p:=⟨g2,off+k*2+1,none⟩) bC).trans (iV k jl).2⟩);have q9:IntKind.i64.wrap ((k:Int)+2)=(k:Int)+2:=mC;have q8:IntKind.i64.wrap ((k:Int)+1)=(k:Int)+1:=mC;clear iV ko;generalize cD[k]=IT at *;obtain⟨q2,q3⟩:=IT;simp only[] at bz cz fP mq PT uu;have vz:eB wr wr.drew:=⟨rfl,rfl,rfl,ap,fun _ _=>rfl⟩
    have aqh:Hid (ey 16 #[q q2] wr.drew fun e J=>e=.returned (.string (nk q2))/\(dp J g2 (off+k*2)=some (q q2)/\dp J g2 (off+k*2+1)=some (q q3))/\Hid (gF w b (mB cD k) J)):=u ((aoP q2 wr.drew bz cz).mono (by
     rintro e J ⟨rfl,A⟩;have h1:=(e1.out.below vz).below A;exact⟨rfl,uu.out J h1.ho,u h1⟩))
    have aqi:Hid (∀W,gF w b (mB cD k) W->ey 17 #[q q3] W fun e S=>e=.returned (.string (nl q3))/\(dp S g2 (off+k*2)=some (q q2)/\dp S g2 (off+k*2+1)=some (q q3))/\Hid (gF w b (mB cD k) S)):=u (fun W h=>(aoQ q3 W fP mq).mono (by
     rintro e S ⟨rfl,A⟩;have h1:=h.below A;exact⟨rfl,uu.out S h1.ho,u h1⟩))
    have aqj:Hid (∀W,gF w b (mB cD k) W->ey 14 #[M b,.string ⟨#[116]⟩,.slice (some ⟨W.heap.size,0,none⟩) 2 2] (W.alloc (.cells #[.string (nk q2),.string (nl q3)] 9)) fun e aA=>e=.returned (.tuple #[q ((k:Int)+2),q 0])/\(dp aA g2 (off+k*2)=some (q q2)/\dp aA g2 (off+k*2+1)=some (q q3))/\Hid (gF w b (mB cD (k+1)) aA)):=u (fun W h=>by
     have dF:=(Below.refl W.heap.size W).alloc ap (.cells #[.string (nk q2),.string (nl q3)] 9);have qy:=bH W (.cells #[.string (nk q2),.string (nl q3)] 9);have:=Yh (h.below dF) (PG cD k dR).1 r fL W.heap.size 2 [nk q2,nl q3] (YN qy) (jq qy) (by show 2<=2000000;omega) (fun t au=>by
      have q1:=(Yj q2).2.2;have bN:=(Yk q3).2.2;rcases List.mem_cons.1 au with rfl | au
      ·omega
      ·obtain rfl:=ic au;omega)
     refine this.mono ?_;rintro e aA ⟨rfl,hk⟩;have gi:=hk.out.1;have c7:mF (mB cD k).ck fL [nk q2,nl q3]=(k+2,0,uM cD (k+1)):=PT.out;rw[c7] at gi ⊢;have YT:gF w b (mB cD (k+1)) aA:=gi;exact⟨rfl,uu.out aA YT.ho,u YT⟩)
    obtain⟨nc,s1⟩:=uu.out wr e1.out.ho;generalize nk q2=atF at *;generalize nl q3=atG at *;have ch:=u ae;clear ae bz cz fP mq PT vz bC uu;go_upto_region 14 with fail;go_region_held3 (fun w'=>w'.cell? ⟨g2,off+k*2,none⟩=some (q q2)/\w'.cell? ⟨g2,off+k*2+1,none⟩=some (q q3)) (go_keep) (first
     | (go_at_call 14;refine(aqj.out S kh.out).mono ?_;rintro e aA ⟨rfl,⟨bk,c1⟩,oO⟩)
     | (go_at_call 17;refine(aqi.out J jd.out).mono ?_;rintro e S ⟨rfl,⟨hr,cN⟩,kh⟩)
     | (go_at_call 16;refine aqh.out.mono ?_;rintro e J ⟨rfl,⟨a0,bq⟩,jd⟩))
    all_goals
     clear nc s1 a0 bq hr cN bk c1;go_wp2_with fail;have ae:=ch.out;go_roundg (gk-1);case measure=>omega
     case rel=>exact⟨k+1,by go_num,r,r,oO,r⟩
   ·have vq:k=12:=r;subst vq;have JR:((12:Nat):Int)<(cD.length:Int):=r;have bK:Hid (min cD.length 12=12):=u r;clear ae;go_wp2_with fail;go_ret;exact⟨b,rfl,by rw[bK.out];exact e1.out⟩
  ·have vq:k=cD.length:=r;have JR:(cD.length:Int)<=(k:Int):=r;have bK:Hid (min cD.length 12=k):=u r;clear ae vq;go_wp2_with fail;go_ret;exact⟨b,rfl,by rw[bK.out];exact e1.out⟩
def AY(g:az->List (je)->az×List (je))(p:je->Bool)(R:∀st aP,st.dE=false->g st aP=(st,if p st.ad then aP++[st.ad] else aP)):∀(l:je) (st:az) (aP:List (je)),st.ad=[]->st.dE=false->oz g l st aP=(st,aP++(l.filter fun C=>p [C]).map fun C=>[C])
 | [],st,aP,_,_=>by simp[oz]
 | C::l,st,aP,aw,h1=>by
  obtain⟨ad,bF,eP,dE⟩:=st;simp only at aw h1;subst aw h1;rw[oz,R _ _ rfl];simp only[List.nil_append,List.length_singleton,Nat.sub_self,List.take_zero];rw[AY g p R l ⟨[],bF,eP,false⟩ _ rfl rfl];by_cases aj:p [C]=true
  ·simp[aj]
  ·simp[aj]
def AZ(a8:az->Bool×az)(ba:az->List al×az)(f:je->List al)(Cu:∀s,a8 s=(true,s))(hv:∀s,ba s=(f s.ad,s)):∀(l:je) (aP:List (List al×List (je))) (st:az),st.ad=[]->st.dE=false->(k8 a8 ba (l.map fun C=>[[C]]) aP st).1=aP++l.map (fun C=>(f [C],[[C]]))/\(k8 a8 ba (l.map fun C=>[[C]]) aP st).2.dE=false
 | [],aP,st,_,h1=>by simp[k8,h1]
 | C::l,aP,st,aw,h1=>by
  obtain⟨ad,bF,eP,dE⟩:=st;simp only at aw h1;subst aw h1;rw[List.map_cons,k8];simp only[Bool.false_eq_true,if_false];have e:mp a8 ba [[C]] ⟨[],bF,eP,false⟩=([(f [C],[[C]])],⟨[],[[C]],eP,false⟩):=by unfold mp;simp[Cu,hv]
  rw[e];have aH:=AZ a8 ba f Cu hv l (aP++[(f [C],[[C]])]) ⟨[],[[C]],eP,false⟩ rfl rfl;rw[aH.1];exact⟨by simp,aH.2⟩
def H9{wh:aL}{s:e6×e6}(ak:dJ e=false)(p:je->Bool)(hk:∀st,iZ (bR B O wh (ea B [s])) wh st=(p st.ad,st))(f:je->List al)(hv:∀st,hL (ea B [s]) O e st=(f st.ad,st))(ar:(gC B s).length<=20000):(bR B O (.query e [s] wh .nil .nil) [] nG).2.1=((gC B s).filter fun C=>p [C]).map (fun C=>(f [C],[[C]]))/\(bR B O (.query e [s] wh .nil .nil) [] nG).2.2.dE=false:=by
 have ai:fY B [s]=(gC B s).length:=by simp[fY]
 have PN:iJ B [s] (iZ (bR B O wh (ea B [s])) wh) nG=(mQ (gC B s).length nG,((gC B s).filter fun C=>p [C]).map fun C=>[C]):=by
  unfold iJ;rw[ai];split
  ·rename_i aw;rw[ma aw];rfl
  ·have av:(mQ (gC B s).length nG).dE=false:=by simp[mQ,nG];omega
   rw[hB,if_neg (by rw[av];decide)];rw[AY _ p (fun st aP h=>by rw[hB,if_neg (by rw[h];decide),hk];rfl) _ _ _ rfl av,List.nil_append]
 have av:(mQ (gC B s).length nG).dE=false:=by simp[mQ,nG];omega
 have Cu:∀st,iZ (bR B O .nil (ea B [s])) .nil st=(true,st):=fun st=>rfl;have h:=AZ _ _ f Cu hv ((gC B s).filter fun C=>p [C]) [] (mQ (gC B s).length nG) rfl av;have R:mR e .nil .nil (hL (ea B [s]) O .nil) (mQ (gC B s).length nG,((gC B s).filter fun C=>p [C]).map fun C=>[C])=(((gC B s).filter fun C=>p [C]).map fun C=>[[C]],mQ (gC B s).length nG):=by unfold mR wD;rw[ak];simp[isNone]
 rw[bR];simp only[List.nil_append];rw[PN,R];rw[List.nil_append] at h;exact h
def xp:e6:=⟨#[97]⟩
def YF:e6:=⟨#[120]⟩
def axF:aL:=.node 1 xp YF al.zero .nil .nil
def ara:aL:=.cons axF .nil
def axG(st:az):BP [⟨xp,mA⟩] st xp YF=((st.ad.getD 0 (0,[])).2).getD 0 al.zero:=by have:L0 [⟨xp,mA⟩] xp YF=some (0,0,1):=ax;unfold BP;rw[this]
def ay0(O:Int)(st:az):hL [⟨xp,mA⟩] O ara st=([((st.ad.getD 0 (0,[])).2).getD 0 al.zero],st):=by simp only[ara,axF,hL,ca,if_true];rw[axG]
def cls(c:Int):Nat:=if 10<=qZ c 12 then 0 else qZ c 12+1
def aw0(j:Nat):al:=if j=0 then al.zero else ⟨1,(j:Int)-4,[]⟩
def ay1(c:Int):cls c<11:=by have:=(F7 (c:=c) (n:=12) K).2;unfold cls;split<;>omega
def ay2:∀k,k<12->(fy (JK k).data.toList).1=aw0 (if 10<=k then 0 else k+1):=by
 intro k hk;rcases(by omega:k=0\/k=1\/k=2\/k=3\/k=4\/k=5\/k=6\/k=7\/k=8\/k=9\/k=10\/k=11) with rfl | rfl | rfl | rfl | rfl | rfl | rfl | rfl | rfl | rfl | rfl | rfl
 all_goals kernel_rfl
def ay3(c:Int):CW c=aw0 (cls c):=ay2 (qZ c 12) (F7 K).2
def aw2(cD:List (Int×Int)):∀n,AU cD n=(List.range n).map fun k=>(k+2,[CW (cD.getD k (0,0)).1,CX (cD.getD k (0,0)).2])
 | 0=>rfl
 | n+1=>by rw[AU,aw2 cD n,List.range_succ,List.map_append];rfl
def ay4(cD:List (Int×Int))(n:Nat):gC (uM cD n).bY (fL,xp)=AU cD n:=ax
def axH(cD:List (Int×Int))(n:Nat):ea (uM cD n).bY [(fL,xp)]=[⟨xp,mA⟩]:=ax
def aw5{l:List fo}:∀(j:Nat) (_:j<=l.length) (i:Nat) (_:i<j) (X:i<l.length),l[i]∈dO l j
 | 0,_,i,h,_=>absurd h (fp _)
 | 1,aS,i,h,X=>by
  obtain rfl:i=0:=r;rw[dO];cases l with
  | nil=>simp at X
  | cons a C=>simp
 | j+2,aS,i,h,X=>by
  rw[N2 r r];by_cases hi:i<j+1
  ·have:=aw5 (j+1) r i hi X;split
   ·exact this
   ·exact List.mem_append_left _ this
  ·obtain rfl:i=j+1:=r;split
   ·rename_i he;rw[he];exact aw5 (j+1) r (j+1-1) r r
   ·exact List.mem_append_right _ (List.mem_singleton.2 rfl)
def ay5(ls:List (List fo)){x:fo}(h:x∈ls.flatten):x∈hj ls:=by have cC:=(sS hf ls.flatten).mem_iff.2 h;obtain⟨i,hi,rfl⟩:=List.getElem_of_mem cC;exact aw5 _ ap i hi hi
def sort_1(a:h8):kM pg [a]=[a]:=List.perm_singleton.1 (sS pg [a])
def ay6{s:e6×e6}(F:az->Int×List (List al×List (je))×az)(ar:(gC B s).length<=20000):iJ B [s] (iZ F .nil) nG=(mQ (gC B s).length nG,(gC B s).map fun C=>[C]):=by
 have ai:fY B [s]=(gC B s).length:=by simp[fY]
 unfold iJ;rw[ai];split
 ·rename_i aw;rw[ma aw];rfl
 ·have av:(mQ (gC B s).length nG).dE=false:=by simp[mQ,nG];omega
  rw[hB,if_neg (by rw[av];decide)];rw[AY _ (fun _=>true) (fun st aP h=>by rw[hB,if_neg (by rw[h];decide)];rfl) _ _ _ rfl av,List.nil_append,List.filter_eq_self.2 (fun _ _=>rfl)]
def ay7{st1:az}{cs:List (je)}(ak:dJ e=true)(hk:iJ B V (iZ (bR B O .nil (ea B V)) .nil) nG=(st1,cs))(av:st1.dE=false)(aw:st1.ad=[]):(bR B O (.query e V .nil .nil .nil) [] nG).2.1=[((hL (ea B V) O e {st1 with bF:=cs,ad:=cs.headD []}).1,cs)]/\(bR B O (.query e V .nil .nil .nil) [] nG).2.2.dE=(hL (ea B V) O e {st1 with bF:=cs,ad:=cs.headD []}).2.dE:=by
 obtain⟨ad,bF,eP,dE⟩:=st1;simp only at av aw;subst av aw;rw[bR];simp only[List.nil_append];rw[hk];have R:mR e .nil .nil (hL (ea B V) O .nil) (⟨[],bF,eP,false⟩,cs)=([cs],⟨[],bF,eP,false⟩):=by unfold mR wD;rw[ak];simp[isNone]
 rw[R];simp only[k8,Bool.false_eq_true,if_false,mp,iZ,isNone,if_true,List.nil_append];exact⟨trivial,trivial⟩
def ay8{x:List al×List (je)}(h1:(bR B O t [] nG).2.1=[x])(H:(bR B O t [] nG).2.2.dE=false):oK B O V t=some [nF (lG V x)]:=by unfold oK;rw[H,if_neg K,h1,List.map_singleton,sort_1,List.map_singleton]
def awt:e6:=⟨#[121]⟩
def Na:e6:=⟨#[98]⟩
def atM:aL:=.node 7 ⟨#[]⟩ ⟨#[]⟩ al.zero .nil .nil
def axI(cD:List (Int×Int))(n:Nat)(b:e6):gC (uM cD n).bY (fL,b)=AU cD n:=ax
def aq3{out:List l7}(h:fW 0 W (.slice a n c) out):n=out.length:=by obtain⟨bE,C,bN,_⟩:=h;obtain⟨nB,e7,q1⟩:=cG C;injection q1 with _ q1 _;rw[q1,bN]
def ay9{t:e6}(h:w.ownsRow 0 40 2 v 1 [.string t,q m]):∃g c,v=.slice (some ⟨g,0,none⟩) 1 c/\dp w g 0=some (.string t)/\dp w g 1=some (q m):=by
 rcases h.2 with⟨bo,aw⟩ | ⟨g,cJ,ay,bo,eI,ed,hle,om,ff,BH⟩
 ·cases aw
 ·refine⟨g,cJ,bo,?_,?_⟩
  ·refine Z ed (i:=0) ?_;have:=congrArg (·[0]?) BH;simpa using this
  ·refine Z ed (i:=1) ?_;have:=congrArg (·[1]?) BH;simpa using this
def axJ{dc:Option Addr}{gB:Nat}{out:List l7}{v t:e6}(h:fW 0 W (.slice dc n gB) out)(hi:i<out.length)(he:out[i]=([v],[(t,m)])):∃g g1 c1 g2 c2,dc=some ⟨g,0,none⟩/\dp W g (i*2)=some (.slice (some ⟨g1,0,none⟩) 1 c1)/\dp W g (i*2+1)=some (.slice (some ⟨g2,0,none⟩) 1 c2)/\dp W g1 0=some (.string v)/\dp W g2 0=some (.string t)/\dp W g2 1=some (q m):=by
 have ar:=aq3 h;obtain⟨bE,C,am,k⟩:=h;have aqg:i<bE.length:=r;have atO:n=bE.length:=r;rw[atO] at C;obtain⟨g,eX,R,bk,c1⟩:=Ps C i aqg;obtain⟨aI,aZ⟩:=k i aqg hi;rw[he] at aI aZ;obtain⟨aC,bA,Y⟩:=cG aI;rw[Y] at bk aI;obtain⟨g1,ev,_,nc⟩:=PF (l:=[v]) aI 0 (by show 0<1;omega);obtain⟨g2,c2,aza,f0,f1⟩:=ay9 aZ;rw[aza] at c1;rw[ev] at bk;exact⟨g,g1,bA,g2,c2,eX,bk,c1,nc,f0,f1⟩
def PV(t:fo):List UInt8:=t.1.data.toList++[32]++(im t.2).data.toList++[44]
def AX(v:e6):List UInt8:=v.data.toList++[44]
def JO(C:l7):List UInt8:=[59]++C.1.flatMap AX++[60]++C.2.flatMap PV
def PX(e aq:Int)(out:List l7):List UInt8:=(im e).data.toList++[58]++(im aq).data.toList++out.flatMap JO
structure UO (out:List l7):Prop where
 vc:out.length<=100000
 ba:∀C∈out,C.1.length<=5000/\∀v∈C.1,v.size<=1000
 atZ:∀C∈out,C.2.length<=100000/\∀t∈C.2,t.1.size<=1000/\-1000000000000000<=t.2/\t.2<=1000000000000000
def ahU{α:Type}(f:α->List UInt8)(l:List α)(k:Nat)(h:k<l.length):(l.take (k+1)).flatMap f=(l.take k).flatMap f++f l[k]:=by rw[jD h,List.flatMap_append];simp
def Gd(a b:e6):(a++b).data.toList=a.data.toList++b.data.toList:=by rw[ByteArray.data_append,Array.toList_append]
def Ge(a b:e6):(a++b).size=a.size+b.size:=by rw[ByteArray.size_append]
def uP(i:Nat):Nat:=100+i*200000000
def at0:uP 0=100:=by unfold uP;omega
def at1(i:Nat):uP (i+1)=uP i+200000000:=by unfold uP;omega
def auA(h:i<=100000):uP i<=100000000000000:=by unfold uP;omega
def ans(b0:Value)(aq e:Int)(out:List l7)(w:World)(h:fW 0 w b0 out)(sm:UO out)(o6 : -1000000000000000<=aq)(yx:aq<=1000000000000000)(nr : -1000000000000000<=e)(re:e<=1000000000000000):ey 11 #[.agg #[b0,q aq],q e] w fun x w'=>x=.returned (.string (a7 (PX e aq out)))/\eB w w':=by
 obtain⟨bE,ag,mn,CL⟩:=h;obtain⟨eL,rc,rfl⟩:=cG ag;have iD:eB w (w.alloc (.cells #[.slice eL bE.length rc,q aq] 30)):=cT;have aT:=bH w (.cells #[.slice eL bE.length rc,q aq] 30);have e9:Hid (∀i (hi:i<bE.length) (ct:i<out.length),∃vJ um g aC c6 bA bt aX bD,out[i]=(vJ,um)/\eL=some ⟨g,0,none⟩/\g<w.heap.size/\(∀W,eB w W->dp W g (i*2)=some (.slice aC c6 bA)/\dp W g (i*2+1)=some (.slice bt aX bD))/\c6=vJ.length/\aX=um.length/\(∀k (hk:k<vJ.length),∃U,aC=some ⟨U,0,none⟩/\U<w.heap.size/\∀aU,eB w aU->dp aU U k=some (.string (vJ[k])))/\(∀k (hk:k<um.length),∃U,bt=some ⟨U,0,none⟩/\U<w.heap.size/\∀aU,eB w aU->dp aU U (k*2)=some (.string (um[k]).1)/\dp aU U (k*2+1)=some (q (um[k]).2))):=u (fun i hi ct=>by
  obtain⟨g,eX,R,bk,c1⟩:=Ps ag i hi;obtain⟨aI,aZ⟩:=CL i hi ct;obtain⟨aC,bA,Y⟩:=cG aI;obtain⟨bt,bD,am⟩:=cG aZ;rw[Y] at bk aI;rw[am] at c1 aZ;refine⟨out[i].1,out[i].2,g,aC,_,bA,bt,_,bD,rfl,eX,R,fun W A=>⟨(A.cell (p:=⟨g,i*2,none⟩) R).trans bk,(A.cell (p:=⟨g,i*2+1,none⟩) R).trans c1⟩,rfl,rfl,fun k hk=>?_,fun k hk=>?_⟩
  ·obtain⟨U,eq,ae,ajS⟩:=PF aI k hk;exact⟨U,eq,ae,fun aU bg=>(bg.cell (p:=⟨U,k,none⟩) ae).trans ajS⟩
  ·obtain⟨U,eq,ae,ajS,auB⟩:=XI aZ k hk;exact⟨U,eq,ae,fun aU bg=>⟨(bg.cell (p:=⟨U,k*2,none⟩) ae).trans ajS,(bg.cell (p:=⟨U,k*2+1,none⟩) ae).trans auB⟩⟩)
 have Ag:=u sm;have auC:=u mn;have anc:bE.length<=100000:=by have:=sm.vc;omega
 have ht:=u (fun W=>JF aq W r r);have bK:=u (fun W=>JF e W r r);have C1:Hid ((im aq).size<=30/\(im e).size<=30):=u ⟨Ik aq r r,Ik e r r⟩;have wN:Hid (a7 (PX e aq out)=a7 ((im e).data.toList++[58]++(im aq).data.toList++(out.take bE.length).flatMap JO)):=u (by unfold PX;rw[mn,List.take_length]);generalize a7 (PX e aq out)=gh at *;clear ag CL sm o6 yx nr re mn;go_enter func11,ntmps11;go_upto_region 1 with fail;generalize w.alloc (.cells #[.slice eL bE.length rc,q aq] 30)=hz at *;have my:=u iD;have rG:Hid (∀W,eB hz W->dp W w.heap.size 0=some (.slice eL bE.length rc)/\dp W w.heap.size 1=some (q aq)):=u (fun W A=>by
  have k:=(A.block _ (br aT).1).trans aT;exact⟨Z k (i:=0) rfl,Z k (i:=1) rfl⟩)
 clear aT iD;have ajV:Hid ((im e++(⟨#[58]⟩:e6)++im aq).data.toList=(im e).data.toList++[58]++(im aq).data.toList/\(im e++(⟨#[58]⟩:e6)++im aq).size<=100):=u (by
  refine⟨by rw[Gd,Gd],?_⟩;have h1:=C1.out;have H:(⟨#[58]⟩:e6).size=1:=rfl;rw[Ge,Ge];omega)
 obtain⟨auD,auE⟩:=C1.out;have q1:¬9223372036854775807<(im e).size+1:=r;have bN:¬9223372036854775807<(im e).size+1+(im aq).size:=r;have JP:Hid (ey 8 #[q e] hz.drew fun x J=>x=.returned (.string (im e))/\(dp J w.heap.size 0=some (.slice eL bE.length rc)/\dp J w.heap.size 1=some (q aq))/\Hid (eB hz J)):=u ((bK.out hz.drew).mono (by
  rintro x J ⟨rfl,A⟩;have bg:eB hz J:=Below.fK (show eB hz hz.drew from⟨rfl,rfl,rfl,ap,fun _ _=>rfl⟩) A;exact⟨rfl,rG.out J bg,u bg⟩))
 have ET:Hid (∀W,eB hz W->ey 8 #[q aq] W fun x S=>x=.returned (.string (im aq))/\(dp S w.heap.size 0=some (.slice eL bE.length rc)/\dp S w.heap.size 1=some (q aq))/\Hid (eB hz S)):=u (fun W h=>(ht.out W).mono (by
  rintro x S ⟨rfl,A⟩;have bg:=Below.fK h A;exact⟨rfl,rG.out S bg,u bg⟩))
 obtain⟨dN,bz⟩:=rG.out hz (Below.refl _ _);generalize im e=Yp at *;generalize im aq=Ys at *;clear auD auE;go_region_held3 (fun w'=>w'.cell? ⟨w.heap.size,0,none⟩=some (.slice eL bE.length rc)/\w'.cell? ⟨w.heap.size,1,none⟩=some (q aq)) (go_keep) (first | (go_at_call 8;refine(ET.out J jd.out).mono ?_;rintro x S ⟨rfl,⟨hr,cN⟩,kh⟩) | (go_at_call 8;refine JP.out.mono ?_;rintro x J ⟨rfl,⟨a0,bq⟩,jd⟩));clear dN bz a0 bq q1 bN hr cN;have auL:Hid ((Yp++(⟨#[58]⟩:e6)++Ys).data.toList=Yp.data.toList++[58]++Ys.data.toList):=u ajV.out.1;have auO:Hid ((Yp++(⟨#[58]⟩:e6)++Ys).size<=100):=u ajV.out.2;generalize Yp++(⟨#[58]⟩:e6)++Ys=k5 at *;generalize Yp.data.toList++[58]++Ys.data.toList=YK at *;have gS:Hid (eB w S):=u (Below.fK my.out kh.out)
 have apb:Hid (∀W,eB S W->dp W w.heap.size 0=some (.slice eL bE.length rc)):=u (fun W A=>(rG.out W (Below.fK kh.out A)).1);clear ajV ET JP rG ht bK C1;go_upto_region 3 with fail;go_loopg [5,6,7,8] (bE.length+1) (fun U sv uN hI bv wr=>∃(i:Nat) (s:e6),i<=bE.length/\uN=q (i:Int)/\sv=.string s/\Hid (s.data.toList=YK++(out.take i).flatMap JO)/\Hid (s.size<=uP i)/\Hid (eB S wr)/\bE.length-i<U);case atStart=>exact⟨0,k5,bu,rfl,rfl,u (by rw[auL.out];simp),u (by have:=auO.out;rw[at0];exact this),u (Below.refl _ _),r⟩
 case round=>
  obtain⟨i,s,hi,rfl,rfl,dV,ep,bc,ae⟩:=hrel;by_cases aD:i<bE.length
  ·have cL:(i:Int)<(bE.length:Int):=r;have ct:i<out.length:=by have:=auC.out;omega
   have D0:uP i<=100000000000000:=auA r;have au7:Hid (uP (i+1)=uP i+200000000):=u (at1 i);have hK:eB w wr:=Below.fK gS.out bc.out;obtain⟨vJ,um,g,aC,c6,bA,bt,aX,bD,YW,rfl,R,j2,apd,FK,ape,apg⟩:=e9.out i aD ct;have oD:Hid (∀W,eB S W->dp W w.heap.size 0=some (.slice (some ⟨g,0,none⟩) bE.length rc)/\dp W g (i*2)=some (.slice aC c6 bA)/\dp W g (i*2+1)=some (.slice bt aX bD)):=u (fun W A=>⟨apb.out W A,j2 W (Below.fK gS.out A)⟩);obtain⟨aph,apr⟩:vJ.length<=5000/\∀v∈vJ,v.size<=1000:=by have:=Ag.out.ba _ (ec ct);rw[YW] at this;exact this
   obtain⟨apu,apv⟩:um.length<=100000/\∀t∈um,t.1.size<=1000/\-1000000000000000<=t.2/\t.2<=1000000000000000:=by have:=Ag.out.atZ _ (ec ct);rw[YW] at this;exact this
   have IY:Hid (∀W,eB S W->∀k (hk:k<c6) (gi:k<vJ.length),∃U,aC=some ⟨U,0,none⟩/\dp W U k=some (.string (vJ[k]))):=u (fun W A k hk gi=>by
    obtain⟨U,e,_,h⟩:=ape k gi;exact⟨U,e,h W (Below.fK gS.out A)⟩)
   have Jv:Hid (∀k (gi:k<um.length),∃U,bt=some ⟨U,0,none⟩/\∀W,eB S W->dp W U (k*2)=some (.string (um[k]).1)/\dp W U (k*2+1)=some (q (um[k]).2)):=u (fun k gi=>by
    obtain⟨U,e,_,h⟩:=apg k gi;exact⟨U,e,fun W A=>h W (Below.fK gS.out A)⟩)
   have ava:Hid ((out.take (i+1)).flatMap JO=(out.take i).flatMap JO++([59]++vJ.flatMap AX++[60]++um.flatMap PV)):=u (by have:=ahU JO out i ct;rw[YW] at this;exact this);have aej:IntKind.i64.wrap ((i:Int)+1)=(i:Int)+1:=mC;have fb:=u apd;have dy:=u FK;have apw:=u (And.intro aph (And.intro apr (And.intro apu apv)));have Vo:c6<=5000:=r;have lX:aX<=100000:=r;clear apd FK ape apg j2 YW aph apr apu apv e9 R;have b3:¬9223372036854775807<s.size+1:=by have:=ep.out;omega
   have apH:Hid ((s++(⟨#[59]⟩:e6)).data.toList=YK++(out.take i).flatMap JO++[59]):=u (by rw[Gd,dV.out]);have Jo:Hid ((s++(⟨#[59]⟩:e6)).size<=uP i+1):=u (by have:=ep.out;have e:(⟨#[59]⟩:e6).size=1:=rfl;rw[Ge,e];omega);obtain⟨bk,c1,c2⟩:=oD.out wr bc.out;have ch:=u ae;have vy:=u aD;clear ae dV ep aD ct hK;go_upto_block 2 with fail;generalize s++(⟨#[59]⟩:e6)=ha at *;generalize apI:YK++(out.take i).flatMap JO++[59]=yM at *;have avk:=u apI;clear apI;clear bk c1 c2;obtain⟨FR,rfl⟩:∃x,x=gk:=⟨_,rfl⟩;obtain⟨ih,rfl⟩:∃x,x=wr:=⟨_,rfl⟩;go_cut [5,7] (fun sv gr wc=>∃s:e6,sv=.string s/\Hid (s.data.toList=yM++vJ.flatMap AX)/\Hid (s.size<=uP i+5005001)/\wc=ih);case first=>
    as_aux_lemma=>
     go_wp2_with fail;go_loopg [5,7] (c6+1) (fun U sv gr wk=>∃(k:Nat) (s:e6),k<=c6/\gr=q (k:Int)/\sv=.string s/\Hid (s.data.toList=yM++(vJ.take k).flatMap AX)/\Hid (s.size<=uP i+1+k*1001)/\wk=ih/\c6-k<U);case atStart=>exact⟨0,ha,bu,rfl,rfl,u (by rw[apH.out];simp),u (by have:=Jo.out;omega),rfl,r⟩
     case round=>
      obtain⟨k,s,hk,rfl,rfl,dV,ep,rfl,ae⟩:=hrel;obtain⟨bk,c1,c2⟩:=oD.out _ bc.out;have Jm:=vy.out;have fM:(i:Int)<(bE.length:Int):=r;by_cases jl:k<c6
      ·have JR:(k:Int)<(c6:Int):=r;have YX:k<vJ.length:=by have:=fb.out;omega
       obtain⟨U,rfl,fl⟩:=IY.out _ bc.out k jl YX;have Cx:=apw.out.2.1 _ (ec YX);have mo:Hid ((vJ.take (k+1)).flatMap AX=(vJ.take k).flatMap AX++(vJ[k].data.toList++[44])):=u (ahU AX vJ k YX);have sU:IntKind.i64.wrap ((k:Int)+1)=(k:Int)+1:=mC;generalize vJ[k]=YY at *;have z2:¬9223372036854775807<s.size+YY.size:=by have:=ep.out;omega
       have z3:¬9223372036854775807<s.size+YY.size+1:=by have:=ep.out;omega
       have YZ:Hid ((s++YY++(⟨#[44]⟩:e6)).data.toList=yM++(vJ.take (k+1)).flatMap AX):=u (by rw[mo.out,Gd,Gd,dV.out];simp);have eS:Hid ((s++YY++(⟨#[44]⟩:e6)).size<=uP i+1+(k+1)*1001):=u (by have:=ep.out;have e:(⟨#[44]⟩:e6).size=1:=rfl;rw[Ge,Ge,e];omega);have wY:=u ae;clear ae dV ep Cx YX;go_wp2_with fail;have ae:=wY.out;go_roundg (gk-1);case measure=>omega
       case rel=>exact⟨k+1,_,r,by go_num,rfl,YZ,eS,rfl,r⟩
      ·have vq:k=c6:=r;subst vq;have JR:(k:Int)<=(k:Int):=r;have oG:Hid (s.data.toList=yM++vJ.flatMap AX):=u (by rw[dV.out,fb.out,List.take_length]);have aqa:Hid (s.size<=uP i+5005001):=u (by have:=ep.out;omega);clear dV ep ae;go_wp2_with fail;go_meet;case rel=>exact⟨s,rfl,oG,aqa,rfl⟩
   case rest=>
    obtain⟨s2,rfl,dV,ep,uj⟩:=hcut;subst uj;clear apH Jo IY b3;have oG:Hid ((s2++(⟨#[60]⟩:e6)).data.toList=yM++vJ.flatMap AX++[60]):=u (by rw[Gd,dV.out]);have aqa:Hid ((s2++(⟨#[60]⟩:e6)).size<=uP i+5005002):=u (by have:=ep.out;have e:(⟨#[60]⟩:e6).size=1:=rfl;rw[Ge,e];omega);have z4:¬9223372036854775807<s2.size+1:=by have:=ep.out;omega
    clear dV ep;go_upto_block 4 with fail;generalize s2++(⟨#[60]⟩:e6)=jJ at *;go_wp2_with fail;go_loopg [5,8] (aX+1) (fun U sv gr wk=>∃(m:Nat) (s:e6),m<=aX/\gr=q (m:Int)/\sv=.string s/\Hid (s.data.toList=yM++vJ.flatMap AX++[60]++(um.take m).flatMap PV)/\Hid (s.size<=uP i+5005002+m*1040)/\Hid (eB S wk)/\aX-m<U);case atStart=>exact⟨0,jJ,bu,rfl,rfl,u (by rw[oG.out];simp),u (by have:=aqa.out;omega),bc,r⟩
    case round=>
     obtain⟨m,dd,hm,rfl,rfl,dV,ep,pB,ae⟩:=hrel;obtain⟨bk,c1,c2⟩:=oD.out _ pB.out;have Jm:=vy.out;have fM:(i:Int)<(bE.length:Int):=r;by_cases wG:m<aX
     ·have avp:(m:Int)<(aX:Int):=r;have Y3:m<um.length:=by have:=dy.out;omega
      obtain⟨U,rfl,vm⟩:=Jv.out m Y3;obtain⟨aqm,aqn,aqo⟩:=apw.out.2.2.2 _ (ec Y3);have mo:Hid ((um.take (m+1)).flatMap PV=(um.take m).flatMap PV++(um[m].1.data.toList++[32]++(im um[m].2).data.toList++[44])):=u (ahU PV um m Y3);have axh:IntKind.i64.wrap ((m:Int)+1)=(m:Int)+1:=mC;generalize um[m]=T at *;obtain⟨kt,kV⟩:=T;simp only[] at vm aqm aqn aqo mo;have ID:Hid (∀W,eB S W->(dp W w.heap.size 0=some (.slice (some ⟨g,0,none⟩) bE.length rc)/\dp W g (i*2+1)=some (.slice (some ⟨U,0,none⟩) aX bD)/\dp W U (m*2)=some (.string kt)/\dp W U (m*2+1)=some (q kV))):=u (fun W A=>⟨(oD.out W A).1,(oD.out W A).2.2,vm W A⟩)
      have vS:Hid (ey 8 #[q kV] wr.drew fun x bh=>x=.returned (.string (im kV))/\(dp bh w.heap.size 0=some (.slice (some ⟨g,0,none⟩) bE.length rc)/\dp bh g (i*2+1)=some (.slice (some ⟨U,0,none⟩) aX bD)/\dp bh U (m*2)=some (.string kt)/\dp bh U (m*2+1)=some (q kV))/\Hid (eB S bh)):=u ((JF kV wr.drew r r).mono (by
       rintro x bh ⟨rfl,A⟩;have iR:eB S bh:=Below.fK (Below.fK pB.out (show eB wr wr.drew from⟨rfl,rfl,rfl,ap,fun _ _=>rfl⟩)) A;exact⟨rfl,ID.out bh iR,u iR⟩))
      have BA:=Ik kV r r;generalize im kV=ach at *;have z5:¬9223372036854775807<dd.size+kt.size:=by have:=ep.out;omega
      have R9:¬9223372036854775807<dd.size+kt.size+1:=by have:=ep.out;omega
      have DJ:¬9223372036854775807<dd.size+kt.size+1+ach.size:=by have:=ep.out;omega
      have acY:¬9223372036854775807<dd.size+kt.size+1+ach.size+1:=by have:=ep.out;omega
      have YZ:Hid ((dd++kt++(⟨#[32]⟩:e6)++ach++(⟨#[44]⟩:e6)).data.toList=yM++vJ.flatMap AX++[60]++(um.take (m+1)).flatMap PV):=u (by rw[mo.out,Gd,Gd,Gd,Gd,dV.out];simp);have eS:Hid ((dd++kt++(⟨#[32]⟩:e6)++ach++(⟨#[44]⟩:e6)).size<=uP i+5005002+(m+1)*1040):=u (by have:=ep.out;have e:(⟨#[44]⟩:e6).size=1:=rfl;have am:(⟨#[32]⟩:e6).size=1:=rfl;rw[Ge,Ge,Ge,Ge,e,am];omega);obtain⟨d0,d1,d2,d3⟩:=ID.out wr pB.out;have avq:=u ae;clear ae dV ep Y3 aqm aqn aqo BA vm bk c1 c2;go_upto_region 14 with fail
      go_region_held3 (fun w'=>w'.cell? ⟨w.heap.size,0,none⟩=some (.slice (some ⟨g,0,none⟩) bE.length rc)/\w'.cell? ⟨g,i*2+1,none⟩=some (.slice (some ⟨U,0,none⟩) aX bD)/\w'.cell? ⟨U,m*2,none⟩=some (.string kt)/\w'.cell? ⟨U,m*2+1,none⟩=some (q kV)) (go_keep) (first | (go_at_call 8;refine vS.out.mono ?_;rintro x bh ⟨rfl,⟨f0,f1,f2,f3⟩,F4⟩));all_goals
       clear d0 d1 d2 d3 f0 f1 f2 f3;go_wp2_with fail;have ae:=avq.out;go_roundg (gk-1);case measure=>omega
       case rel=>exact⟨m+1,_,r,by go_num,rfl,YZ,eS,F4,r⟩
     ·have avt:m=aX:=r;subst avt;have avp:(m:Int)<=(m:Int):=r;have x9:Hid (dd.data.toList=YK++(out.take (i+1)).flatMap JO):=u (by
       rw[dV.out,dy.out,List.take_length,ava.out,<-avk.out];simp)
      have Xg:Hid (dd.size<=uP (i+1)):=u (by have:=ep.out;have:=au7.out;omega);have avw:=pB;clear dV ep ae pB;go_wp2_with fail;have ae:=ch.out;go_roundg (FR-1);case measure=>omega
      case rel=>exact⟨i+1,_,r,by go_num,rfl,x9,Xg,avw,r⟩
  ·have eZ:i=bE.length:=r;subst eZ;have cL:(bE.length:Int)<=(bE.length:Int):=r;have cK:Hid (gh=s):=u (by rw[wN.out,<-dV.out];rfl);have aT:=apb.out wr bc.out;have avx:Hid (eB w wr):=u (Below.fK gS.out bc.out);clear ae dV ep bc;go_wp2_with fail;go_ret;exact⟨by rw[cK.out];rfl,avx.out⟩
def atc{aG:ez}{t:fo}(h:t∈hP V aG i):(t.1=⟨#[]⟩\/∃s∈V,t.1=s.1)/\(t.2=0\/∃c∈aG,∃C∈c,t.2=(C.1:Int)):=by
 unfold hP at h;obtain⟨c,ai,rfl⟩:=List.mem_map.1 h;refine⟨?_,?_⟩
 ·by_cases hi:i<V.length
  ·refine .inr ⟨V[i],ec hi,?_⟩;show(V.getD i _).1=_;rw[List.getD_eq_getElem?_getD,fC hi];rfl
  ·left;show(V.getD i _).1=_;rw[List.getD_eq_getElem?_getD,List.getElem?_eq_none r];rfl
 ·by_cases hi:i<c.length
  ·refine .inr ⟨c,ai,c[i],ec hi,?_⟩;show(((c.getD i _).1:Nat):Int)=_;rw[List.getD_eq_getElem?_getD,fC hi];rfl
  ·left;show(((c.getD i _).1:Nat):Int)=_;rw[List.getD_eq_getElem?_getD,List.getElem?_eq_none r];rfl
def avy{g:hG}(ok:hA N g)(fit:lw g)(cS:N<=1000000000){td:List eb}(hrel:oJ td g.bY){out:List l7}(ae:hN td eH=0)(ag:hC eH=some (ts,t))(ak:oK g.bY g.dS (eM t) t=some out):UO out:=by
 obtain⟨ko,CS,_,⟨e,wh,il,hv,r7⟩,iu⟩:=PA ae ag;have bi:=fit.B ok;have bM : -1000000000000<=g.dS:=by have:=ok.zN;omega
 have ajW:aJ (.query e (eM t) wh il hv) 2:=by rw[<-r7];exact ko
 have aqp:mr (.query e (eM t) wh il hv):=by rw[<-r7];exact CS
 have y7:oK g.bY g.dS (eM t) (.query e (eM t) wh il hv)=some out:=by rw[<-r7];exact ak
 obtain⟨cN,bL,_⟩:=XG bi bM ok.ya ajW aqp iu y7;obtain⟨b1,_⟩:=Pm bi bM ok.ya ajW aqp [] (E:=[]) (st:=nG) (m:=0) (by trivial) ⟨bu,fun _=>bu⟩;have gA:=(UQ (P:=fun C=>C.1<=1000000000) (B:=g.bY) (fun s C ag=>by
  rcases L4 g.bY s with⟨aw,_⟩ | ⟨iy,lX,aw,_⟩
  ·rw[aw] at ag;cases ag
  ·rw[aw] at ag;have:=(fit iy lX).num C ag;have:=(ok.B iy lX).last;omega) g.dS (.query e (eM t) wh il hv) [] nG ⟨fun C ag=>(by cases ag),fun c ai=>(by cases ai)⟩).1
 have aqc:∀s∈eM t,s.1.size<=6:=by
  have ut:eh td [] t=true:=by
   unfold hN at ae;split at ae
   ·rename_i h;exact absurd ae h
   ·rw[ag] at ae;have zb:pj td t=0:=ae;unfold pj at zb;split at zb
    ·rename_i h;exact h
    ·cases zb
  rw[r7,eh,Bool.and_eq_true] at ut;cases aa:hd td [] (eM t) with
  | none=>rw[aa] at ut;exact absurd ut.2 (by simp)
  | some bU=>obtain⟨_,_,ab,_⟩:=Jc hrel (eM t) [] bU aa;intro s hs;obtain⟨i,hi⟩:=ab s hs;obtain⟨X,ar⟩:=W5 hi;have:=(fit _ (ec X)).name;rw[ar] at this;unfold iP at this;have cE:s.1.data.toList.length<=6:=of_decide_eq_true (Bool.and_eq_true_iff.1 this).2;rw[ax7] at cE;exact cE
 unfold oK at y7;split at y7
 ·cases y7
 obtain rfl:=bx y7;have key:∀C∈(kM pg ((bR g.bY g.dS (.query e (eM t) wh il hv) [] nG).2.1.map (lG (eM t)))).map nF,∃x∈(bR g.bY g.dS (.query e (eM t) wh il hv) [] nG).2.1,C=nF (lG (eM t) x):=fun C ag=>by obtain⟨a,ak,rfl⟩:=List.mem_map.1 ag;obtain⟨x,aa,rfl⟩:=List.mem_map.1 ((sS pg _).mem_iff.1 ak);exact⟨x,aa,rfl⟩
 refine⟨r,fun C ag=>?_,fun C ag=>?_⟩
 ·obtain⟨x,aa,rfl⟩:=key C ag;have kc:=b1 x aa;obtain⟨_,_,_,cO,_⟩:=id ajW;refine⟨?_,fun v hv=>?_⟩
  ·show(x.1.map _).length<=5000;rw[cZ,kc.len];exact cO
  ·obtain⟨y,hy,rfl⟩:=List.mem_map.1 (show v∈x.1.map _ from hv);have:=OE (kc.ba y hy);show((iI y).toArray).size<=1000;simp only[List.size_toArray];omega
 ·obtain⟨x,aa,rfl⟩:=key C ag;have qK:=gA x aa;have kc:=b1 x aa;refine⟨?_,fun ne vg=>?_⟩
  ·have h1:(lG (eM t) x).2.length<=(eM t).length*x.2.length:=by unfold lG;refine bX (Pv _) ?_;rw[List.flatten_cons,List.flatten_nil,List.append_nil,CG];exact ap
   have H:(eM t).length*x.2.length<=3*20000:=Nat.mul_le_mul iu kc.vc;show(lG (eM t) x).2.length<=100000;omega
  ·have hm:=(apo [iO (eM t) x.2 (eM t).length]).2.1 ne vg;rw[List.flatten_cons,List.flatten_nil,List.append_nil] at hm;unfold iO at hm;obtain⟨i,_,hm⟩:=List.mem_flatMap.1 hm;obtain⟨m1,m2⟩:=atc hm;refine⟨?_,?_⟩
   ·rcases m1 with m1 | ⟨s,hs,m1⟩
    ·rw[m1];show 0<=1000;omega
    ·rw[m1];have:=aqc s hs;omega
   ·rcases m2 with m2 | ⟨c,ai,lK,tw,m2⟩
    ·rw[m2];exact⟨r,r⟩
    ·have:=qK c ai lK tw;rw[m2];simp only[] at this;exact⟨r,r⟩
def ave{s:List UInt8}(h:iP s=true):jf s=true:=by unfold iP yU at h;simp only[Bool.and_eq_true,decide_eq_true_eq] at h;unfold jf;rw[Bool.and_eq_true];exact⟨List.all_eq_true.2 fun c ai=>by rw[List.all_eq_true.1 h.1.1.1 c ai];rfl,ax3 r⟩
def Yr(iy:bG):List fo:=[(⟨#[]⟩:e6),iy.name].flatMap fun n=>(0::iy.ad.map fun C=>(C.1:Int)).map fun k=>(n,k)
def avf(iy:bG):(Yr iy).length=2*(iy.ad.length+1):=by unfold Yr;simp;omega
def avg{t:fo}(h1:t.1=⟨#[]⟩\/t.1=iy.name)(H:t.2=0\/∃C∈iy.ad,t.2=(C.1:Int)):t∈Yr iy:=by
 unfold Yr;obtain⟨a,b⟩:=t;refine List.mem_flatMap.2 ⟨a,?_,List.mem_map.2 ⟨b,?_,rfl⟩⟩
 ·rcases h1 with rfl | rfl<;>simp
 ·rcases H with rfl | ⟨C,ag,rfl⟩
  ·simp
  ·exact List.mem_cons_of_mem _ (List.mem_map.2 ⟨C,ag,rfl⟩)
def avh(au:s.ck.bY=[iy])(ok:hA N s.ck)(fit:lw s.ck)(h:apq s cU eH j):∃ts,j=nh cU s.ck.dS ts s.ce/\s.ce.count<60/\jf cU.data.toList=true/\ts.length<=2*(iy.ad.length+1)/\∀t∈ts,t∈Yr iy:=by
 obtain⟨td,avZ,t,out,hrel,ae,ag,ak,ai,hw,rfl⟩:=h;refine⟨_,rfl,ai,hw,?_⟩;have key:∀x∈(out.map (·.2)).flatten,x∈Yr iy:=by
  obtain⟨ko,CS,_,⟨e,wh,il,hv,r7⟩,iu⟩:=PA ae ag;have bi:=fit.B ok;have bM : -1000000000000<=s.ck.dS:=by have:=ok.zN;omega
  have gA:=(UQ (P:=fun C=>C∈iy.ad) (B:=s.ck.bY) (fun fu C ag=>by
   rcases L4 s.ck.bY fu with⟨aw,_⟩ | ⟨av0,lX,aw,_⟩
   ·rw[aw] at ag;cases ag
   ·rw[aw] at ag;rw[au] at lX;obtain rfl:=ic lX;exact ag) s.ck.dS (.query e (eM t) wh il hv) [] nG ⟨fun C ag=>(by cases ag),fun c ai=>(by cases ai)⟩).1
  have aqc:∀fu∈eM t,fu.1=iy.name:=by
   have ut:eh td [] t=true:=by
    unfold hN at ae;split at ae
    ·rename_i h;exact absurd ae h
    ·rw[ag] at ae;have zb:pj td t=0:=ae;unfold pj at zb;split at zb
     ·rename_i h;exact h
     ·cases zb
   rw[r7,eh,Bool.and_eq_true] at ut;cases aa:hd td [] (eM t) with
   | none=>rw[aa] at ut;exact absurd ut.2 (by simp)
   | some bU=>
    obtain⟨_,_,ab,_⟩:=Jc hrel (eM t) [] bU aa;intro fu hs;obtain⟨i,hi⟩:=ab fu hs;obtain⟨X,ar⟩:=W5 hi;have tZ:∀x∈s.ck.bY,x=iy:=by rw[au];intro x aa;exact ic aa
    rw[<-ar];exact congrArg bG.name (tZ _ (ec X))
  have y7:oK s.ck.bY s.ck.dS (eM t) (.query e (eM t) wh il hv)=some out:=by rw[<-r7];exact ak
  unfold oK at y7;split at y7
  ·cases y7
  obtain rfl:=bx y7;intro x aa;obtain⟨l,X,mI⟩:=List.mem_flatten.1 aa;obtain⟨o,ct,rfl⟩:=List.mem_map.1 X;obtain⟨a,avi,rfl⟩:=List.mem_map.1 ct;obtain⟨y,hy,rfl⟩:=List.mem_map.1 ((sS pg _).mem_iff.1 avi);have hm:=(apo [iO (eM t) y.2 (eM t).length]).2.1 x mI;rw[List.flatten_cons,List.flatten_nil,List.append_nil] at hm;unfold iO at hm;obtain⟨i,_,hm⟩:=List.mem_flatMap.1 hm;obtain⟨m1,m2⟩:=atc hm;refine avg ?_ ?_
  ·rcases m1 with m1 | ⟨fu,hs,m1⟩
   ·exact .inl m1
   ·exact .inr (m1.trans (aqc fu hs))
  ·rcases m2 with m2 | ⟨c,k4,lK,tw,m2⟩
   ·exact .inl m2
   ·exact .inr ⟨lK,gA y hy c k4 lK tw,m2⟩
 refine⟨?_,fun x aa=>key x ((apo _).2.1 x aa)⟩;rw[<-avf];exact(apo (out.map (·.2))).2.2 (Yr iy) key
def apA(au:s.ck.bY=[iy])(ok:hA N s.ck)(fit:lw s.ck)(cS:N<=1000000000)(aS:JW s.ce)(h:apq s cU eH j):JW j:=by
 obtain⟨ts,rfl,ai,hw,X,hm⟩:=avh au ok fit h;have nT:iy∈s.ck.bY:=by rw[au];exact List.mem_singleton.2 rfl
 have yY:=(ok.B iy nT).Ea;have bM : -1000000000000<=s.ck.dS:=by have:=ok.zN;omega
 refine aS.with ai hw bM ok.ya r (fun t vg=>?_);have:=hm t vg;unfold Yr at this;obtain⟨a,ak,H⟩:=List.mem_flatMap.1 this;obtain⟨b,A,rfl⟩:=List.mem_map.1 H;refine⟨?_,?_⟩
 ·rcases List.mem_cons.1 ak with rfl | ak
  ·show jf []=true;decide
  ·obtain rfl:=ic ak;exact ave (fit iy nT).name
 ·rcases List.mem_cons.1 A with rfl | A
  ·show(-1000000000000:Int)<=0/\(0:Int)<=1000000000000;omega
  ·obtain⟨C,ag,rfl⟩:=List.mem_map.1 A;have:=(fit iy nT).num C ag;have:=(ok.B iy nT).last;show -1000000000000<=((C.1:Nat):Int)/\((C.1:Nat):Int)<=1000000000000;omega
