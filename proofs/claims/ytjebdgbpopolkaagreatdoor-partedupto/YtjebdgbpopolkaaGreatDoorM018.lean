import Derived.Test.YtjebdgbpopolkaaGreatDoorM017
import Derived.Deep.RegionHeld3
import Derived.Sort.Grow
set_option maxHeartbeats 0
set_option maxRecDepth 100000
set_option linter.all false
namespace Go.Proofs.YtjebdgbpopolkaaGreatDoor
open Tryz
open Go.RowKit
open bS
variable{W w w' J:World}{bB G b h hi fM j k l lo nJ nb size tag:Nat}{o:Obj}{dx cs:Array Value}{hv aE v x:Value}{bs:List Bool}{vs xs:List Value}{m:Nat×Nat}{p U t bp:aL}{e:TypeId}{n s:e6}{V:lh}
def nX(x y:al):Int:=j5 [Lib.compareInt x.kind y.kind,Lib.compareInt x.num y.num,Lib.compareBytes x.du y.du]
def afs(a b c:Int)(W:World)(t:TypeId):ey 77 #[.slice (some ⟨W.heap.size,0,none⟩) 3 3] (W.alloc (.cells #[q a,q b,q c] t)).drew fun e w'=>e=.returned (q (j5 [a,b,c]))/\(W.alloc (.cells #[q a,q b,q c] t)).drew=w':=by
 have A:=bH W (.cells #[q a,q b,q c] t);refine Lt [a,b,c] W.heap.size 3 _ (by simp) (fun i hi=>?_);match i,hi with
 | 0,_=>exact Z A (i:=0) rfl
 | 1,_=>exact Z A (i:=1) rfl
 | 2,_=>exact Z A (i:=2) rfl
def aft(a b:Int)(W:World)(t:TypeId):ey 77 #[.slice (some ⟨W.heap.size,0,none⟩) 2 2] (W.alloc (.cells #[q a,q b] t)).drew fun e w'=>e=.returned (q (j5 [a,b]))/\(W.alloc (.cells #[q a,q b] t)).drew=w':=by
 have A:=bH W (.cells #[q a,q b] t);refine Lt [a,b] W.heap.size 2 _ (by simp) (fun i hi=>?_);match i,hi with
 | 0,_=>exact Z A (i:=0) rfl
 | 1,_=>exact Z A (i:=1) rfl
def grow_end{l:Array Obj}(h:W=Sort.grow w l):(W.alloc o).drew=Sort.grow w.drew (l ++ #[o]):=by subst h;rw[Sort.alloc_eq_grow,Sort.grow_grow];rfl
def Ts(a b:e6)(w:World):ey 129 #[.string a,.string b] w (ov w (q (Lib.compareBytes a.data.toList b.data.toList))):=(Tryz.strings_Compare a b w).mono fun _ _ h=>⟨h.1,h.2.symm⟩
def afu(a b:Int)(w:World):ey 130 #[q a,q b] w (ov w (q (Lib.compareInt a b))):=(Tryz.cmp_Compare_int a b w).mono fun _ _ h=>⟨h.1,h.2.symm⟩
def Me(x y:al)(w:World):ey 79 #[cb x,cb y] w fun e w'=>e=.returned (q (nX x y))/\∃os,w'=Sort.grow w.drew os:=by
 obtain⟨mS,e2,nA⟩:=x;obtain⟨sJ,j7,Ek⟩:=y;show ey _ #[.agg #[q (mS:Int),q e2,.string (a7 nA)],.agg #[q (sJ:Int),q j7,.string (a7 Ek)]] w _;have bK:Hid (nX ⟨mS,e2,nA⟩ ⟨sJ,j7,Ek⟩=j5 [Lib.compareInt mS sJ,Lib.compareInt e2 j7,Lib.compareBytes (a7 nA).data.toList (a7 Ek).data.toList]):=u (by simp[nX,a7]);generalize nX ⟨mS,e2,nA⟩ ⟨sJ,j7,Ek⟩=cm at *;generalize a7 nA=dB at *;generalize a7 Ek=jx at *;go_enter func79,ntmps79;go_upto_region 1 with fail;have b4:Hid ((w.alloc (.cells #[q (mS:Int),q e2,.string dB] 112)).alloc (.cells #[q (sJ:Int),q j7,.string jx] 112)=Sort.grow w #[.cells #[q (mS:Int),q e2,.string dB] 112,.cells #[q (sJ:Int),q j7,.string jx] 112]):=u (by rw[Sort.alloc_eq_grow,Sort.alloc_eq_grow,Sort.grow_grow];rfl)
 have cr:((w.alloc (.cells #[q (mS:Int),q e2,.string dB] 112)).alloc (.cells #[q (sJ:Int),q j7,.string jx] 112)).heap[w.heap.size]?=some (.cells #[q (mS:Int),q e2,.string dB] 112 (0,0)):=(Below.heap_alloc _ _ _ (by simp)).trans (bH w _);have bw:((w.alloc (.cells #[q (mS:Int),q e2,.string dB] 112)).alloc (.cells #[q (sJ:Int),q j7,.string jx] 112)).heap[w.heap.size+1]?=some (.cells #[q (sJ:Int),q j7,.string jx] 112 (0,0)):=by have:=bH (w.alloc (.cells #[q (mS:Int),q e2,.string dB] 112)) (.cells #[q (sJ:Int),q j7,.string jx] 112);simpa using this
 generalize (w.alloc (.cells #[q (mS:Int),q e2,.string dB] 112)).alloc (.cells #[q (sJ:Int),q j7,.string jx] 112)=W at *;generalize w.heap.size=aB at *;generalize aB+1=bB at *;have a0:=Z cr (i:=0) rfl;have bq:=Z cr (i:=1) rfl;have a2:=Z cr (i:=2) rfl;have hr:=Z bw (i:=0) rfl;have cN:=Z bw (i:=1) rfl;have bL:=Z bw (i:=2) rfl;clear cr bw
 go_region_held3 (fun w'=>w'.cell? ⟨aB,0,none⟩=some (q (mS:Int))/\w'.cell? ⟨aB,1,none⟩=some (q e2)/\w'.cell? ⟨aB,2,none⟩=some (.string dB)/\w'.cell? ⟨bB,0,none⟩=some (q (sJ:Int))/\w'.cell? ⟨bB,1,none⟩=some (q j7)/\w'.cell? ⟨bB,2,none⟩=some (.string jx)) (go_keep) (first | (go_at_call 127;refine(ad6 _ _ _).mono ?_;rintro e J ⟨rfl,rfl⟩) | (go_at_call 128;refine(ad7 _ _ _).mono ?_;rintro e J ⟨rfl,rfl⟩) | (go_at_call 129;refine(Ts _ _ _).mono ?_;rintro e J ⟨rfl,rfl⟩) | (go_at_call 77;refine(afs _ _ _ _ _).mono ?_;rintro e J ⟨rfl,rfl⟩));go_wp2_with fail;go_ret;exact⟨by rw[bK.d];rfl,_,grow_end b4.d⟩
def El(x y:e6×Int):Int:=j5 [Lib.compareBytes x.1.data.toList y.1.data.toList,Lib.compareInt x.2 y.2]
def Tt(x y:e6×Int)(w:World):ey 81 #[.agg #[.string x.1,q x.2],.agg #[.string y.1,q y.2]] w fun e w'=>e=.returned (q (El x y))/\∃os,w'=Sort.grow w.drew os:=by
 obtain⟨dB,e2⟩:=x;obtain⟨jx,j7⟩:=y;have bK:Hid (El ⟨dB,e2⟩ ⟨jx,j7⟩=j5 [Lib.compareBytes dB.data.toList jx.data.toList,Lib.compareInt e2 j7]):=u rfl;generalize El ⟨dB,e2⟩ ⟨jx,j7⟩=cm at *;dsimp only;go_enter func81,ntmps81;go_upto_region 1 with fail;have b4:Hid ((w.alloc (.cells #[.string dB,q e2] 40)).alloc (.cells #[.string jx,q j7] 40)=Sort.grow w #[.cells #[.string dB,q e2] 40,.cells #[.string jx,q j7] 40]):=u (by rw[Sort.alloc_eq_grow,Sort.alloc_eq_grow,Sort.grow_grow];rfl);have cr:((w.alloc (.cells #[.string dB,q e2] 40)).alloc (.cells #[.string jx,q j7] 40)).heap[w.heap.size]?=some (.cells #[.string dB,q e2] 40 (0,0)):=(Below.heap_alloc _ _ _ (by simp)).trans (bH w _);have bw:((w.alloc (.cells #[.string dB,q e2] 40)).alloc (.cells #[.string jx,q j7] 40)).heap[w.heap.size+1]?=some (.cells #[.string jx,q j7] 40 (0,0)):=by
  have:=bH (w.alloc (.cells #[.string dB,q e2] 40)) (.cells #[.string jx,q j7] 40);simpa using this
 generalize (w.alloc (.cells #[.string dB,q e2] 40)).alloc (.cells #[.string jx,q j7] 40)=W at *;generalize w.heap.size=aB at *;generalize aB+1=bB at *;have a0:=Z cr (i:=0) rfl;have bq:=Z cr (i:=1) rfl;have hr:=Z bw (i:=0) rfl;have cN:=Z bw (i:=1) rfl;clear cr bw;go_region_held3 (fun w'=>w'.cell? ⟨aB,0,none⟩=some (.string dB)/\w'.cell? ⟨aB,1,none⟩=some (q e2)/\w'.cell? ⟨bB,0,none⟩=some (.string jx)/\w'.cell? ⟨bB,1,none⟩=some (q j7)) (go_keep) (first | (go_at_call 130;refine(afu _ _ _).mono ?_;rintro e J ⟨rfl,rfl⟩) | (go_at_call 129;refine(Ts _ _ _).mono ?_;rintro e J ⟨rfl,rfl⟩) | (go_at_call 77;refine(aft _ _ _ _).mono ?_;rintro e J ⟨rfl,rfl⟩));go_wp2_with fail;go_ret;exact⟨by rw[bK.d];rfl,_,grow_end b4.d⟩
def BQ(b:Bool):Int:=if b then 2 else 0
def zS(ok b:Bool):Int:=if ok then BQ b else 1
def Mf(b:Bool)(w:World):ey 243 #[.bool b] w (ov w (q (BQ b))):=by
 cases b<;>
 ·go_enter func243,ntmps243;go_wp2;go_ret;exact⟨rfl,rfl⟩
def Mg(ok b:Bool)(w:World):ey 245 #[.bool ok,.bool b] w (ov w (q (zS ok b))):=by
 have eW:=u (Mf b w);cases ok
 ·go_enter func245,ntmps245;go_wp2_with fail;go_ret;exact⟨rfl,rfl⟩
 ·go_enter func245,ntmps245;go_wp2_with (go_at_call 243;refine eW.d.mono ?_;rintro e J ⟨rfl,rfl⟩);go_ret;exact⟨rfl,rfl⟩
def afv(x:Int)(aw:0<=x)(H:x<=2)(w:World):ey 242 #[q x] w (ov w (q (2-x))):=by have hw:IntKind.i64.wrap (2-x)=2-x:=mC;go_enter func242,ntmps242;go_wp2;go_ret;exact⟨rfl,rfl⟩
def afw(x y:Int)(w:World):ey 240 #[q x,q y] w (ov w (q (min x y))):=by go_enter func240,ntmps240;go_wp2;go_ret;exact⟨rfl,rfl⟩
def afx(x y:Int)(w:World):ey 241 #[q x,q y] w (ov w (q (max x y))):=by go_enter func241,ntmps241;go_wp2;go_ret;exact⟨rfl,rfl⟩
def Tu(x:Int)(aw : -9223372036854775807<=x)(h1:x<=9223372036854775807)(w:World):ey 248 #[q x] w (ov w (q (max x (-x)))):=by have hw:IntKind.i64.wrap (-x) = -x:=mC;go_enter func248,ntmps248;go_wp2;go_ret;exact⟨rfl,rfl⟩
def nY(k:Nat):Bool:=decide (7<=k)&&decide (k<=11)
def Hz(b k:Nat)(w:World)(h:dp w b 0=some (q (k:Int))):ey 103 #[M b] w (ov w (.bool (nY k))):=by
 by_cases kD:(7:Int)<=(k:Int)
 ·have bK:Hid (nY k=decide ((k:Int)<=11)):=u (by
   unfold nY;rw[ax3 (show 7<=k by omega),Bool.true_and];exact decide_eq_decide.2 r)
  go_enter func103,ntmps103;go_wp2;go_ret;exact⟨by rw[bK.d];rfl,rfl⟩
 ·have uX:(k:Int)<7:=r;have bK:Hid (nY k=false):=u (by
   unfold nY;rw[ax2 (show ¬7<=k by omega),Bool.false_and])
  go_enter func103,ntmps103;go_wp2;go_ret;exact⟨by rw[bK.d];rfl,rfl⟩
def Mh(b k:Nat)(w:World)(h:dp w b 0=some (q (k:Int))):ey 105 #[M b] w (ov w (.bool (decide (k=15)))):=by
 have bK:Hid (((k:Int)==15)=decide (k=15)):=u (by
  by_cases e:k=15
  ·subst e;rfl
  ·rw[ax2 e,cV];omega)
 go_enter func105,ntmps105;go_wp2;go_ret;exact⟨congrArg (fun x=>Ending.returned (.bool x)) bK.d,rfl⟩
def tY(w:World)(G:Nat)(dx:Array Value)(v:Value)(b:Bool):Prop:=∀w',Below w.heap.size w w'->ey G (#[v]++dx) w' (gU w' (.bool b))
def tY.below{b:Bool}(h:tY w G dx v b)(A:Below w.heap.size w J):tY J G dx v b:=fun w' bg=>h w' (A.trans (bg.mono A.size))
def k9(w:World)(G:Nat)(dx:Array Value):List Value->List Bool->Prop
 | [],[]=>True
 | v::vs,b::bs=>tY w G dx v b/\k9 w G dx vs bs
 | _,_=>False
def k9.len{w:World}{G:Nat}{dx:Array Value}:∀{xs:List Value} {bs:List Bool},k9 w G dx xs bs->xs.length=bs.length
 | [],[],_=>rfl
 | _::_,_::_,h=>by simp[k9.len h.2]
def k9.get{w:World}{G:Nat}{dx:Array Value}:∀{xs:List Value} {bs:List Bool},k9 w G dx xs bs->∀(j:Nat) (h1:j<xs.length) (H:j<bs.length),tY w G dx xs[j] bs[j]
 | [],[],_,j,h1,_=>absurd h1 (fp _)
 | _::_,_::_,h,0,_,_=>h.1
 | _::_,_::_,h,j+1,a,b=>k9.get h.2 j (by simpa using a) (by simpa using b)
def k9.later{w J:World}{G:Nat}{dx:Array Value}(A:Below w.heap.size w J):∀{xs:List Value} {bs:List Bool},k9 w G dx xs bs->k9 J G dx xs bs
 | [],[],_=>trivial
 | _::_,_::_,h=>⟨h.1.below A,k9.later A h.2⟩
def pR(bs:List Bool)(j:Nat):Prop:=∀i (h:i<bs.length),i<j->bs[i]=false
def HA(h:pR bs bs.length):bs.findIdx? id=none:=by rw[List.findIdx?_eq_none_iff];intro b A;obtain⟨i,hi,rfl⟩:=List.mem_iff_getElem.1 A;exact h i hi hi
def HB(h:pR bs j)(aS:j<bs.length)(e:bs[j]=true):bs.findIdx? id=some j:=by rw[List.findIdx?_eq_some_iff_getElem];refine⟨aS,e,fun i hi A=>?_⟩;have:=h i r hi;rw[show id bs[i]=bs[i] from rfl,this] at A;cases A
def pS(h:eK w v xs)(A:Below w.heap.size w w'):eK w' v xs:=ee h A
def afy(vs:List Value)(bs:List Bool)(v:Value)(w:World)(G:Nat)(dx:Array Value)(eX:∀args w,(callFunc G args).run prog w=.ok (.enter G args) w)(an:eK w v vs)(cq:k9 w G dx vs bs)(X:vs.length<=100000):ey 231 #[v,.func (.func G) #[] dx] w (gU w (q (nV (bs.findIdx? id)))):=by
 have b7:=cq.len;have fk:=u b7;have mG:=u cq;have e9:=u an;have hv:v=.slice none 0 0/\vs=[]\/∃g af,v=.slice (some ⟨g,0,none⟩) vs.length af:=by
  by_cases aw:0<vs.length
  ·obtain⟨g,af,e,_⟩:=an.cell 0 aw;exact .inr ⟨g,af,e⟩
  ·have c7:vs=[]:=ma r;subst c7;rcases an.2 with⟨e,_⟩ | ⟨g,af,ay,e,_⟩
   ·exact .inl ⟨e,rfl⟩
   ·exact .inr ⟨g,af,e⟩
 clear b7 cq an;rcases hv with⟨rfl,rfl⟩ | ⟨g,af,rfl⟩
 ·obtain rfl:bs=[]:=ma fk.d.symm;clear mG e9 fk;go_enter func231,ntmps231;go_wp2_with fail;refine wp_loop_rounds 1 ?_;rw[rounds_succ];go_wp2_with fail;go_ret;exact⟨rfl,Below.refl _ _⟩
 ·go_enter func231,ntmps231;go_wp2_with fail;go_loopg [5,8] (vs.length+1) (fun U _ i wr=>∃j:Nat,j<=vs.length/\i=q (j:Int)/\Hid (pR bs j)/\Below w.heap.size w wr/\vs.length-j<U);case atStart=>exact⟨0,bu,rfl,u (fun i _ hi=>absurd hi (fp _)),Below.refl _ _,r⟩
  case round=>
   obtain⟨j,aS,rfl,b8,A,ae⟩:=hrel;by_cases aD:j<vs.length
   ·have cL:(j:Int)<(vs.length:Int):=r;have i6:j<bs.length:=by have:=fk.d;omega
    obtain⟨dM,cJ,bo,bk⟩:=(pS e9.d A).cell j aD;obtain⟨rfl,rfl⟩:g=dM/\af=cJ:=by injection bo with Y am bm;injection Y with Y;injection Y with Y;exact⟨Y,bm⟩
    have fr:IntKind.i64.wrap ((j:Int)+1)=(j:Int)+1:=mC;have ch:=u ae;have aN:=u (mG.d.get j aD i6 wr A);have bn:Hid (∀b,bs[j]=b->(b=true->bs.findIdx? id=some j)/\(b=false->pR bs (j+1))):=u (fun b bg=>⟨fun e=>HB b8.d i6 (bg.trans e),fun e a ak cf=>by
     by_cases Y:a=j
     ·subst Y;exact bg.trans e
     ·exact b8.d a ak r⟩)
    generalize bs[j]=hb at aN bn;have eS:=u (bn.d hb rfl);generalize vs[j]=x at *;clear bn b8 ae bo;cases hb
    ·have bj:=u (eS.d.2 rfl);clear eS;go_wp2_with (go_at_fn G;refine aN.d.mono ?_;rintro e S ⟨rfl,ah⟩);have ae:=ch.d;go_roundg (vs.length-j);case measure=>omega
     case rel=>exact⟨j+1,r,by go_num,bj,A.trans (ah.mono A.size),r⟩
    ·have bj:=u (eS.d.1 rfl);clear eS;go_wp2_with (go_at_fn G;refine aN.d.mono ?_;rintro e S ⟨rfl,ah⟩);go_ret;exact⟨by rw[bj.d];rfl,A.trans (ah.mono A.size)⟩
   ·have cL:(vs.length:Int)<=(j:Int):=r;have bj:=u (HA (fun a ak _=>b8.d a ak (by have:=fk.d;omega)));clear b8 ae;go_wp2_with fail;go_ret;exact⟨by rw[bj.d];rfl,A⟩
def Tv(bs:List Bool):decide ((0:Int)<=nV (bs.findIdx? id))=bs.any id:=by
 cases h:bs.findIdx? id with
 | none=>
  rw[List.findIdx?_eq_none_iff] at h;have:bs.any id=false:=by rw[List.any_eq_false];exact fun x aa=>by simpa using h x aa
  rw[this];rfl
 | some j=>obtain⟨aS,A,_⟩:=List.findIdx?_eq_some_iff_getElem.1 h;have:bs.any id=true:=List.any_eq_true.2 ⟨_,ec aS,A⟩;rw[this];exact ax3 (by show(0:Int)<=((j:Nat):Int);omega)
def Em(vs:List Value)(bs:List Bool)(v:Value)(w:World)(G:Nat)(dx:Array Value)(eX:∀args w,(callFunc G args).run prog w=.ok (.enter G args) w)(an:eK w v vs)(cq:k9 w G dx vs bs)(X:vs.length<=100000):ey 152 #[v,.func (.func G) #[] dx] w (gU w (.bool (bs.any id))):=by have eW:=u (afy vs bs v w G dx eX an cq X);have bK:=u (Tv bs);clear an cq eX;generalize nV (bs.findIdx? id)=gX at *;generalize bs.any id=cm at *;go_enter func152,ntmps152;go_wp2_with (go_at_call 231;refine eW.d.mono ?_;rintro e J ⟨rfl,bJ⟩);go_ret;exact⟨congrArg (fun x=>Ending.returned (.bool x)) bK.d,bJ⟩
def pd(w:World)(hv x:Value)(b:Bool):Prop:=∀w',Below w.heap.size w w'->ey 102 #[x,hv] w' (gU w' (.bool b))
def h3(w:World)(hv:Value):List Value->List Bool->Prop
 | [],[]=>True
 | v::vs,b::bs=>pd w hv v b/\h3 w hv vs bs
 | _,_=>False
def pd.later{b:Bool}(h:pd w hv x b)(A:Below w.heap.size w J):pd J hv x b:=fun w' bg=>h w' (A.trans (bg.mono A.size))
def h3.later{w J:World}{hv:Value}(A:Below w.heap.size w J):∀{xs:List Value} {bs:List Bool},h3 w hv xs bs->h3 J hv xs bs
 | [],[],_=>trivial
 | _::_,_::_,h=>⟨h.1.later A,h3.later A h.2⟩
def afz{b:Bool}(A:Below w.heap.size w W)(bw:dp W bB 0=some hv)(o9:bB<W.heap.size)(tZ:∃G dx,hv=.func (.func G) #[] dx)(h:pd w hv x b):tY W 151 #[M bB] x b:=by intro w' bg;have eW:=u (h w' (A.trans (bg.mono A.size)));have ar0:dp w' bB 0=some hv:=dr bg bw o9;obtain⟨G,dx,rfl⟩:=tZ;clear h A bw bg o9;show ey 151 #[x,M bB] w' _;go_enter func151,ntmps151;go_wp2_with (go_at_call 102;refine eW.d.mono ?_;rintro e J ⟨rfl,bJ⟩);go_ret;exact⟨rfl,bJ⟩
def h3.within{w W:World}{hv:Value}{bB:Nat}(A:Below w.heap.size w W)(bw:dp W bB 0=some hv)(o9:bB<W.heap.size)(tZ:∃G dx,hv=.func (.func G) #[] dx):∀{xs:List Value} {bs:List Bool},h3 w hv xs bs->k9 W 151 #[M bB] xs bs
 | [],[],_=>trivial
 | _::_,_::_,h=>⟨afz A bw o9 tZ h.1,h3.within A bw o9 tZ h.2⟩
def afA(b:Nat)(co:Value)(vs:List Value)(bs:List Bool)(hr:Bool)(G:Nat)(dx:Array Value)(eX:∀args w,(callFunc G args).run prog w=.ok (.enter G args) w)(w:World)(zT:dp w b 6=some co)(bc:b<w.heap.size)(an:eK w co vs)(av:tY w G dx (M b) hr)(cq:h3 w (.func (.func G) #[] dx) vs bs)(X:vs.length<=100000):ey 102 #[M b,.func (.func G) #[] dx] w (gU w (.bool (hr||bs.any id))):=by
 have HC:∀args w,(callFunc 151 args).run prog w=.ok (.enter 151 args) w:=enters_of func151 ax rfl;have aO:Below w.heap.size w (w.alloc (.cells #[.func (.func G) #[] dx] 158)):=cT;have fA:=bH w (.cells #[.func (.func G) #[] dx] 158);have gu:=u (av _ aO);have fG:Hid (∀S,Below (w.alloc (.cells #[.func (.func G) #[] dx] 158)).heap.size (w.alloc (.cells #[.func (.func G) #[] dx] 158)) S->dp S b 6=some co/\ey 152 #[co,.func (.func 151) #[] #[M w.heap.size]] S (gU S (.bool (bs.any id)))):=u (fun S ah=>by
  have A:=aO.trans (ah.mono aO.size);have lW:dp S w.heap.size 0=some (.func (.func G) #[] dx):=dr ah (Z fA (i:=0) rfl) (by simp);have aD:w.heap.size<S.heap.size:=e0 (by simp) ah.size;exact⟨dr A zT bc,Em vs bs co S _ _ HC (pS an A) (h3.within A lW aD ⟨G,dx,rfl⟩ cq) X⟩)
 have b4:=u aO;have dT:Hid ((w.alloc (.cells #[.func (.func G) #[] dx] 158)).cell? ⟨w.heap.size,0,none⟩=some (.func (.func G) #[] dx)):=u (Z fA (i:=0) rfl);clear cq av an fA aO zT bc HC;go_enter func102,ntmps102;go_upto_region 2 with fail;generalize w.alloc (.cells #[.func (.func G) #[] dx] 158)=W at *;generalize Tw:w.heap.size=bB at *;have En:=u Tw;clear Tw;have bk:=dT.d;have x5:bB<=W.heap.size:=by have a:=b4.d.size;have b:=En.d;omega
 cases hr
 ·go_wp2_with (first | (go_at_call 152;refine BR.mono ?_;rintro e aA ⟨rfl,cg⟩) | (go_at_fn G;refine gu.d.mono ?_;rintro e S ⟨rfl,ah⟩;obtain⟨jy,BR⟩:=fG.d S ah));go_ret;exact⟨rfl,by rw[En.d];exact(b4.d.trans (ah.mono x5)).trans (cg.mono (bX x5 ah.size))⟩
 ·go_wp2_with (go_at_fn G;refine gu.d.mono ?_;rintro e S ⟨rfl,ah⟩);go_ret;exact⟨rfl,by rw[En.d];exact b4.d.trans (ah.mono x5)⟩
def afB(hv:Value)(G:Nat)(dx:Array Value)(e:hv=.func (.func G) #[] dx)(w:World):ey 102 #[.pointer none,hv] w (gU w (.bool false)):=by subst e;go_enter func102,ntmps102;go_wp2_with fail;go_ret;exact⟨rfl,cT⟩
def ga(p:aL->Bool):aL->Bool
 | .nil=>false
 | .cons h t=>ga p h||ga p t
 | .node k s n v parts U=>p (.node k s n v parts U)||ga p parts
 | .query _ _ _ _ _=>false
def cp:aL->Nat
 | .nil=>0
 | .cons h t=>cp h+cp t+1
 | .node _ _ _ _ parts U=>cp parts+cp U+1
 | .query e _ w g h=>cp e+cp w+cp g+cp h+1
def ms:aL->Prop
 | .node _ _ _ _ _ _=>True
 | _=>False
def h4(xs:List (Value×Value)):List Value:=xs.flatMap fun x=>[x.1,x.2]
def zU(x:Value×Value):Value:=.agg #[x.1,x.2]
def yd(l:List (Value×Value))(p:Nat)(h:p<l.length):(h4 l)[p*2]?=some l[p].1/\(h4 l)[p*2+1]?=some l[p].2:=by
 induction l generalizing p with
 | nil=>exact absurd h (fp _)
 | cons a C aH=>
  have e:h4 (a::C)=[a.1,a.2]++h4 C:=by simp[h4]
  rw[e];cases p with
  | zero=>exact⟨rfl,rfl⟩
  | succ p=>
   have:=aH p (by simpa using h);rw[List.getElem?_append_right (by simp;omega),List.getElem?_append_right (by simp;omega)];have Y:(p+1)*2 - [a.1,a.2].length=p*2:=by simp;omega
   have am:(p+1)*2+1 - [a.1,a.2].length=p*2+1:=by simp;omega
   rw[Y,am];simpa using this
def afC(xs:List (Value×Value))(bs:List Bool)(a:Option Addr)(af lo:Nat)(w:World)(G:Nat)(dx:Array Value)(eX:∀args w,(callFunc G args).run prog w=.ok (.enter G args) w)(an:w.ownsRow lo 242 2 (.slice a xs.length af) xs.length (h4 xs))(cq:k9 w G dx (xs.map zU) bs)(X:xs.length<=100000):ey 227 #[.slice a xs.length af,.func (.func G) #[] dx] w (gU w (q (nV (bs.findIdx? id)))):=by
 have b7:xs.length=bs.length:=by have:=cq.len;rwa [cZ] at this
 have fk:=u b7;have mG:=u cq;clear b7 cq;go_enter func227,ntmps227;go_wp2_with fail;go_loopg [5,8] (xs.length+1) (fun U _ i wr=>∃j:Nat,j<=xs.length/\i=q (j:Int)/\Hid (pR bs j)/\Below w.heap.size w wr/\xs.length-j<U);case atStart=>exact⟨0,bu,rfl,u (fun i _ hi=>absurd hi (fp _)),Below.refl _ _,r⟩
 case round=>
  obtain⟨j,aS,rfl,b8,A,ae⟩:=hrel;by_cases aD:j<xs.length
  ·have cL:(j:Int)<(xs.length:Int):=r;have i6:j<bs.length:=by have:=fk.d;omega
   obtain⟨h1,H⟩:=yd xs j aD;rcases an.2 with⟨bo,aw⟩ | ⟨g,cJ,ay,bo,eI,ed,-⟩
   ·omega
   obtain⟨rfl,rfl⟩:a=some ⟨g,0,none⟩/\af=cJ:=by injection bo with Y am bm;exact⟨Y,bm⟩
   have ef:g<w.heap.size:=(br ed).1;have c1:=dr A (by have:=an.cells rfl _ _ h1;rwa [Addr.add_lit,ax1] at this) ef;have c2:=dr A (by have:=an.cells rfl _ _ H;rwa [Addr.add_lit,ax1] at this) ef;have fr:IntKind.i64.wrap ((j:Int)+1)=(j:Int)+1:=mC;have ch:=u ae;have aN:Hid (ey G (#[.agg #[xs[j].1,xs[j].2]]++dx) wr (gU wr (.bool bs[j]))):=u (by
    have:=mG.d.get j (by rw[cZ];exact aD) i6 wr A;rw[List.getElem_map] at this;exact this)
   have bn:Hid (∀b,bs[j]=b->(b=true->bs.findIdx? id=some j)/\(b=false->pR bs (j+1))):=u (fun b bg=>⟨fun e=>HB b8.d i6 (bg.trans e),fun e a ak cf=>by
    by_cases Y:a=j
    ·subst Y;exact bg.trans e
    ·exact b8.d a ak r⟩)
   generalize bs[j]=hb at aN bn;have eS:=u (bn.d hb rfl);generalize xs[j]=x at *;obtain⟨bz,cz⟩:=x;dsimp only at c1 c2 aN;clear bn b8 ae bo h1 H ed;cases hb
   ·have bj:=u (eS.d.2 rfl);clear eS;go_wp2_with (go_at_fn G;refine aN.d.mono ?_;rintro e S ⟨rfl,ah⟩);have ae:=ch.d;go_roundg (xs.length-j);case measure=>omega
    case rel=>exact⟨j+1,r,by go_num,bj,A.trans (ah.mono A.size),r⟩
   ·have bj:=u (eS.d.1 rfl);clear eS;go_wp2_with (go_at_fn G;refine aN.d.mono ?_;rintro e S ⟨rfl,ah⟩);go_ret;exact⟨by rw[bj.d];rfl,A.trans (ah.mono A.size)⟩
  ·have cL:(xs.length:Int)<=(j:Int):=r;have bj:=u (HA (fun a ak _=>b8.d a ak (by have:=fk.d;omega)));clear b8 ae;go_wp2_with fail;go_ret;exact⟨by rw[bj.d];rfl,A⟩
def afD(xs:List (Value×Value))(bs:List Bool)(a:Option Addr)(af lo:Nat)(w:World)(G:Nat)(dx:Array Value)(eX:∀args w,(callFunc G args).run prog w=.ok (.enter G args) w)(an:w.ownsRow lo 130 2 (.slice a xs.length af) xs.length (h4 xs))(cq:k9 w G dx (xs.map zU) bs)(X:xs.length<=100000):ey 229 #[.slice a xs.length af,.func (.func G) #[] dx] w (gU w (q (nV (bs.findIdx? id)))):=by
 have b7:xs.length=bs.length:=by have:=cq.len;rwa [cZ] at this
 have fk:=u b7;have mG:=u cq;clear b7 cq;go_enter func229,ntmps229;go_wp2_with fail;go_loopg [5,8] (xs.length+1) (fun U _ i wr=>∃j:Nat,j<=xs.length/\i=q (j:Int)/\Hid (pR bs j)/\Below w.heap.size w wr/\xs.length-j<U);case atStart=>exact⟨0,bu,rfl,u (fun i _ hi=>absurd hi (fp _)),Below.refl _ _,r⟩
 case round=>
  obtain⟨j,aS,rfl,b8,A,ae⟩:=hrel;by_cases aD:j<xs.length
  ·have cL:(j:Int)<(xs.length:Int):=r;have i6:j<bs.length:=by have:=fk.d;omega
   obtain⟨h1,H⟩:=yd xs j aD;rcases an.2 with⟨bo,aw⟩ | ⟨g,cJ,ay,bo,eI,ed,-⟩
   ·omega
   obtain⟨rfl,rfl⟩:a=some ⟨g,0,none⟩/\af=cJ:=by injection bo with Y am bm;exact⟨Y,bm⟩
   have ef:g<w.heap.size:=(br ed).1;have c1:=dr A (by have:=an.cells rfl _ _ h1;rwa [Addr.add_lit,ax1] at this) ef;have c2:=dr A (by have:=an.cells rfl _ _ H;rwa [Addr.add_lit,ax1] at this) ef;have fr:IntKind.i64.wrap ((j:Int)+1)=(j:Int)+1:=mC;have ch:=u ae;have aN:Hid (ey G (#[.agg #[xs[j].1,xs[j].2]]++dx) wr (gU wr (.bool bs[j]))):=u (by
    have:=mG.d.get j (by rw[cZ];exact aD) i6 wr A;rw[List.getElem_map] at this;exact this)
   have bn:Hid (∀b,bs[j]=b->(b=true->bs.findIdx? id=some j)/\(b=false->pR bs (j+1))):=u (fun b bg=>⟨fun e=>HB b8.d i6 (bg.trans e),fun e a ak cf=>by
    by_cases Y:a=j
    ·subst Y;exact bg.trans e
    ·exact b8.d a ak r⟩)
   generalize bs[j]=hb at aN bn;have eS:=u (bn.d hb rfl);generalize xs[j]=x at *;obtain⟨bz,cz⟩:=x;dsimp only at c1 c2 aN;clear bn b8 ae bo h1 H ed;cases hb
   ·have bj:=u (eS.d.2 rfl);clear eS;go_wp2_with (go_at_fn G;refine aN.d.mono ?_;rintro e S ⟨rfl,ah⟩);have ae:=ch.d;go_roundg (xs.length-j);case measure=>omega
    case rel=>exact⟨j+1,r,by go_num,bj,A.trans (ah.mono A.size),r⟩
   ·have bj:=u (eS.d.1 rfl);clear eS;go_wp2_with (go_at_fn G;refine aN.d.mono ?_;rintro e S ⟨rfl,ah⟩);go_ret;exact⟨by rw[bj.d];rfl,A.trans (ah.mono A.size)⟩
  ·have cL:(xs.length:Int)<=(j:Int):=r;have bj:=u (HA (fun a ak _=>b8.d a ak (by have:=fk.d;omega)));clear b8 ae;go_wp2_with fail;go_ret;exact⟨by rw[bj.d];rfl,A⟩
def idxFrom(xs:List (Value×Value))(bs:List Bool)(a:Option Addr)(af lo:Nat)(w:World)(G:Nat)(dx:Array Value)(eX:∀args w,(callFunc G args).run prog w=.ok (.enter G args) w)(an:w.ownsRow lo 161 2 (.slice a xs.length af) xs.length (h4 xs))(cq:k9 w G dx (xs.map zU) bs)(X:xs.length<=100000):ey 277 #[.slice a xs.length af,.func (.func G) #[] dx] w (gU w (q (nV (bs.findIdx? id)))):=by
 have b7:xs.length=bs.length:=by have:=cq.len;rwa [cZ] at this
 have fk:=u b7;have mG:=u cq;clear b7 cq;go_enter func277,ntmps277;go_wp2_with fail;go_loopg [5,8] (xs.length+1) (fun U _ i wr=>∃j:Nat,j<=xs.length/\i=q (j:Int)/\Hid (pR bs j)/\Below w.heap.size w wr/\xs.length-j<U);case atStart=>exact⟨0,bu,rfl,u (fun i _ hi=>absurd hi (fp _)),Below.refl _ _,r⟩
 case round=>
  obtain⟨j,aS,rfl,b8,A,ae⟩:=hrel;by_cases aD:j<xs.length
  ·have cL:(j:Int)<(xs.length:Int):=r;have i6:j<bs.length:=by have:=fk.d;omega
   obtain⟨h1,H⟩:=yd xs j aD;rcases an.2 with⟨bo,aw⟩ | ⟨g,cJ,ay,bo,eI,ed,-⟩
   ·omega
   obtain⟨rfl,rfl⟩:a=some ⟨g,0,none⟩/\af=cJ:=by injection bo with Y am bm;exact⟨Y,bm⟩
   have ef:g<w.heap.size:=(br ed).1;have c1:=dr A (by have:=an.cells rfl _ _ h1;rwa [Addr.add_lit,ax1] at this) ef;have c2:=dr A (by have:=an.cells rfl _ _ H;rwa [Addr.add_lit,ax1] at this) ef;have fr:IntKind.i64.wrap ((j:Int)+1)=(j:Int)+1:=mC;have ch:=u ae;have aN:Hid (ey G (#[.agg #[xs[j].1,xs[j].2]]++dx) wr (gU wr (.bool bs[j]))):=u (by
    have:=mG.d.get j (by rw[cZ];exact aD) i6 wr A;rw[List.getElem_map] at this;exact this)
   have bn:Hid (∀b,bs[j]=b->(b=true->bs.findIdx? id=some j)/\(b=false->pR bs (j+1))):=u (fun b bg=>⟨fun e=>HB b8.d i6 (bg.trans e),fun e a ak cf=>by
    by_cases Y:a=j
    ·subst Y;exact bg.trans e
    ·exact b8.d a ak r⟩)
   generalize bs[j]=hb at aN bn;have eS:=u (bn.d hb rfl);generalize xs[j]=x at *;obtain⟨bz,cz⟩:=x;dsimp only at c1 c2 aN;clear bn b8 ae bo h1 H ed;cases hb
   ·have bj:=u (eS.d.2 rfl);clear eS;go_wp2_with (go_at_fn G;refine aN.d.mono ?_;rintro e S ⟨rfl,ah⟩);have ae:=ch.d;go_roundg (xs.length-j);case measure=>omega
    case rel=>exact⟨j+1,r,by go_num,bj,A.trans (ah.mono A.size),r⟩
   ·have bj:=u (eS.d.1 rfl);clear eS;go_wp2_with (go_at_fn G;refine aN.d.mono ?_;rintro e S ⟨rfl,ah⟩);go_ret;exact⟨by rw[bj.d];rfl,A.trans (ah.mono A.size)⟩
  ·have cL:(xs.length:Int)<=(j:Int):=r;have bj:=u (HA (fun a ak _=>b8.d a ak (by have:=fk.d;omega)));clear b8 ae;go_wp2_with fail;go_ret;exact⟨by rw[bj.d];rfl,A⟩
def Mi(a b:e6):(a.toList==b.toList)=decide (a=b):=by
 by_cases h:a=b
 ·subst h;simp
 ·rw[ax2 h,cV];exact fun e=>h (toList_inj e)
def afE(c m:e6)(p:Value)(aj:∃a,p=.pointer a)(bB:Nat)(w:World)(bw:dp w bB 0=some (.string m))(X:bB<w.heap.size):ey 228 #[.agg #[.string c,p],M bB] w (gU w (.bool (decide (c=m)))):=by obtain⟨a,rfl⟩:=aj;have cy:¬bB=w.heap.size:=r;have bK:=u (Mi c m);go_enter func228,ntmps228;go_wp2;go_ret;exact⟨congrArg (fun x=>Ending.returned (.bool x)) bK.d,cT⟩
def afF(c m:e6)(k:Int)(bB nb:Nat)(w:World)(bw:dp w bB 0=some (M nb))(X:bB<w.heap.size)(ar:dp w nb 2=some (.string m))(la:nb<w.heap.size):ey 230 #[.agg #[.string c,q k],M bB] w (gU w (.bool (decide (c=m)))):=by
 have bK:=u (Mi c m);have fA:=bH w (.cells #[.string c,q k] 130);have aO:Below w.heap.size w (w.alloc (.cells #[.string c,q k] 130)):=cT;have bk:=Z fA (i:=0) rfl;have ye:=dr aO bw X;have cH:=dr aO ar la;have b4:=u aO;clear fA aO bw ar;go_enter func230,ntmps230;go_upto_region 1 with fail;generalize w.alloc (.cells #[.string c,q k] 130)=W at *;generalize cr:w.heap.size=aB at *;have eo:=u cr;clear cr;go_quiet (fail);go_wp2_with fail;go_ret;exact⟨congrArg (fun x=>Ending.returned (.bool x)) bK.d,by rw[eo.d];exact b4.d.trans ⟨rfl,rfl,rfl,ap,fun _ _=>rfl⟩⟩
structure dC where
 called:e6
 iy:Nat
 bl:List (e6×Nat)
variable{I:List dC}
def rF(s:dC):Value×Value:=(.string s.called,M s.iy)
def mb(c:e6×Nat):Value×Value:=(.string c.1,q (c.2:Int))
def Mj(w:World)(s:dC):Prop:=∃a af cs,w.heap[s.iy]?=some (.cells cs 137 (0,0))/\cs[1]?=some (.slice a s.bl.length af)/\w.ownsRow 0 130 2 (.slice a s.bl.length af) s.bl.length (h4 (s.bl.map mb))/\s.bl.length<=100000
def i7(w:World)(nb:Nat)(aE:Value)(I:List dC):Prop:=∃a af,w.heap[nb]?=some (.cells #[aE,.slice a I.length af] 151 (0,0))/\w.ownsRow nb 242 2 (.slice a I.length af) I.length (h4 (I.map rF))/\∀s∈I,Mj w s
def oB(I:List dC)(m:e6):Option Nat:=I.findIdx? fun s=>decide (s.called=m)
def findIdx_map{α:Type}(p:α->Bool)(l:List α):(l.map p).findIdx? id=l.findIdx? p:=by
 induction l with
 | nil=>rfl
 | cons a C aH=>rw[List.map_cons,List.findIdx?_cons,List.findIdx?_cons,aH];rfl
def Tx{w:World}{bB:Nat}{m:e6}(bw:dp w bB 0=some (.string m))(X:bB<w.heap.size):∀(I:List dC),k9 w 228 #[M bB] ((I.map rF).map zU) (I.map fun s=>decide (s.called=m))
 | []=>trivial
 | s::C=>⟨fun w' bg=>afE s.called m _ ⟨_,rfl⟩ bB w' (dr bg bw X) (e0 X bg.size),Tx bw X C⟩
def HD(nb:Nat)(aE:Value)(I:List dC)(m:e6)(w:World)(h:i7 w nb aE I)(X:I.length<=100000):ey 149 #[M nb,.string m] w (gU w (q (nV (oB I m)))):=by
 obtain⟨a,af,fE,an,_⟩:=h;have eX:∀args w,(callFunc 228 args).run prog w=.ok (.enter 228 args) w:=enters_of func228 ax rfl;have fA:=bH w (.cells #[.string m] 9);have aO:Below w.heap.size w (w.alloc (.cells #[.string m] 9)):=cT;have aN:Hid (ey 227 #[.slice a I.length af,.func (.func 228) #[] #[M w.heap.size]] (w.alloc (.cells #[.string m] 9)) fun e w'=>e=.returned (q (nV (oB I m)))/\Below (w.alloc (.cells #[.string m] 9)).heap.size (w.alloc (.cells #[.string m] 9)) w'):=u (by
  have ag:(w.alloc (.cells #[.string m] 9)).ownsRow 0 242 2 (.slice a (I.map rF).length af) (I.map rF).length (h4 (I.map rF)):=by rw[cZ];exact S0 (an.alloc _)
  have:=afC (I.map rF) (I.map fun s=>decide (s.called=m)) a af 0 _ _ _ eX ag (Tx (Z fA (i:=0) rfl) (by simp) I) (by rw[cZ];exact X);rw[findIdx_map,cZ] at this;exact this)
 have c1:=dr aO (Z fE (i:=1) rfl) (br fE).1;have b4:=u aO;clear fA aO an fE eX;generalize oB I m=cm at *;go_enter func149,ntmps149;go_wp2_with (go_at_call 227;refine aN.d.mono ?_;rintro e J ⟨rfl,bJ⟩);go_ret;exact⟨rfl,b4.d.trans (bJ.mono b4.d.size)⟩
def HE(bl:List (e6×Nat))(m:e6):Option Nat:=bl.findIdx? fun c=>decide (c.1=m)
def i7.later(h:i7 w nb aE I)(A:Below w.heap.size w w'):i7 w' nb aE I:=by obtain⟨a,af,fE,an,ai⟩:=h;refine⟨a,af,(A.block nb (br fE).1).trans fE,ee an A,fun s hs=>?_⟩;obtain⟨nB,cJ,fU,h1,H,ab,aK⟩:=ai s hs;exact⟨nB,cJ,fU,(A.block _ (br h1).1).trans h1,H,ee ab A,aK⟩
def Ty{w:World}{bB nb:Nat}{m:e6}(bw:dp w bB 0=some (M nb))(X:bB<w.heap.size)(ar:dp w nb 2=some (.string m))(la:nb<w.heap.size):∀(bl:List (e6×Nat)),k9 w 230 #[M bB] ((bl.map mb).map zU) (bl.map fun c=>decide (c.1=m))
 | []=>trivial
 | c::C=>⟨fun w' bg=>afF c.1 m _ bB nb w' (dr bg bw X) (e0 X bg.size) (dr bg ar la) (e0 la bg.size),Ty bw X ar la C⟩
def afG{m:e6}(bl:List (e6×Nat))(a:Option Addr)(af:Nat)(bw:dp w bB 0=some (M nb))(X:bB<w.heap.size)(ar:dp w nb 2=some (.string m))(la:nb<w.heap.size)(an:w.ownsRow 0 130 2 (.slice a bl.length af) bl.length (h4 (bl.map mb)))(b7:bl.length<=100000):ey 229 #[.slice a bl.length af,.func (.func 230) #[] #[M bB]] w (gU w (q (nV (HE bl m)))):=by
 have eX:∀args w,(callFunc 230 args).run prog w=.ok (.enter 230 args) w:=enters_of func230 ax rfl;have ag:w.ownsRow 0 130 2 (.slice a (bl.map mb).length af) (bl.map mb).length (h4 (bl.map mb)):=by rw[cZ];exact an
 have:=afD (bl.map mb) (bl.map fun c=>decide (c.1=m)) a af 0 w _ _ eX ag (Ty bw X ar la bl) (by rw[cZ];exact b7);rw[findIdx_map,cZ] at this;exact this
def afH(nb b:Nat)(aE bk dZ gp fO jy vd o5 nw rx:Value)(src name:e6)(I:List dC)(w:World)(h:i7 w nb aE I)(X:I.length<=100000)(A:w.heap[b]?=some (.cells #[bk,.string src,.string name,dZ,gp,fO,jy,vd,o5,nw,rx] 247 (0,0)))(ar:oB I src=none):ey 150 #[M nb,M b] w (gU w (.bool false)):=by
 have bc:=(br A).1;have aO:Below w.heap.size w (w.alloc (.cells #[M b] 101)):=cT;have fA:=bH w (.cells #[M b] 101);have ye:=Z fA (i:=0) rfl;have cs:=dr aO (Z A (i:=1) rfl) bc;have aN:=u (HD nb aE I src _ (h.later aO) X);rw[ar] at aN;have b4:=u aO;clear fA aO A h ar;go_enter func150,ntmps150;go_upto_region 1 with fail;generalize w.alloc (.cells #[M b] 101)=W at *;generalize cr:w.heap.size=aB at *;have eo:=u cr;clear cr;have fz:nV none = -1:=rfl;rw[fz] at aN;go_wp2_with (go_at_call 149;refine aN.d.mono ?_;rintro e J ⟨rfl,bJ⟩);go_ret;have qG:aB<=W.heap.size:=by have a:=b4.d.size;have b:=eo.d;omega
 exact⟨rfl,by rw[eo.d];exact b4.d.trans (bJ.mono qG)⟩
def i7.at_(h:i7 w nb aE I)(i:Nat)(hi:i<I.length):∃g af gB dz,dp w nb 1=some (.slice (some ⟨g,0,none⟩) I.length af)/\dp w g (i*2+1)=some (.pointer (some ⟨I[i].iy,0,none⟩))/\g<w.heap.size/\nb<w.heap.size/\dp w (I[i].iy) 1=some (.slice gB I[i].bl.length dz)/\I[i].iy<w.heap.size/\w.ownsRow 0 130 2 (.slice gB I[i].bl.length dz) I[i].bl.length (h4 (I[i].bl.map mb))/\I[i].bl.length<=100000:=by
 obtain⟨a,af,fE,an,ai⟩:=h;obtain⟨gB,dz,cs,gm,aI,aZ,dt⟩:=ai I[i] (ec hi);rcases an.2 with⟨bo,aw⟩ | ⟨g,cJ,ay,bo,eI,ed,-⟩
 ·omega
 obtain⟨rfl,rfl⟩:a=some ⟨g,0,none⟩/\af=cJ:=by injection bo with Y am bm;exact⟨Y,bm⟩
 obtain⟨_,H⟩:=yd (I.map rF) i (by rw[cZ];exact hi);have ab:(h4 (I.map rF))[i*2+1]?=some (.pointer (some ⟨I[i].iy,0,none⟩)):=by rw[H,List.getElem_map];rfl
 refine⟨g,af,gB,dz,Z fE (i:=1) rfl,?_,(br ed).1,(br fE).1,Z gm aI,(br gm).1,aZ,dt⟩;have:=an.cells rfl _ _ ab;rwa [Addr.add_lit,ax1] at this
def afI{a:Option Addr}{af:Nat}{bl:List (e6×Nat)}(an:w.ownsRow 0 130 2 (.slice a bl.length af) bl.length (h4 (bl.map mb)))(j:Nat)(aS:j<bl.length):∃g,a=some ⟨g,0,none⟩/\dp w g (j*2+1)=some (q (bl[j].2:Int))/\g<w.heap.size:=by
 rcases an.2 with⟨bo,aw⟩ | ⟨g,cJ,ay,bo,eI,ed,-⟩
 ·omega
 obtain⟨rfl,rfl⟩:a=some ⟨g,0,none⟩/\af=cJ:=by injection bo with Y am bm;exact⟨Y,bm⟩
 obtain⟨_,H⟩:=yd (bl.map mb) j (by rw[cZ];exact aS);have ab:(h4 (bl.map mb))[j*2+1]?=some (q (bl[j].2:Int)):=by rw[H,List.getElem_map];rfl
 refine⟨g,rfl,?_,(br ed).1⟩;have:=an.cells rfl _ _ ab;rwa [Addr.add_lit,ax1] at this
def Mk{α:Type}{p:α->Bool}{l:List α}{i:Nat}(h:l.findIdx? p=some i):i<l.length:=(List.findIdx?_eq_some_iff_getElem.1 h).1
def Ml(w:World)(b i:Nat)(cs:Array Value)(bl:List (e6×Nat))(o:Option Nat)(e:Ending)(w':World):Prop:=match o with
 | none=>e=.returned (.bool false)/\Below w.heap.size w w'
 | some j=>e=.returned (.bool true)/\da (fun k=>k=b) w w'/\w'.heap[b]?=some (.cells (((cs.setIfInBounds 8 (.int .i64 (i:Int))).setIfInBounds 9 (.int .i64 (j:Int))).setIfInBounds 10 (.int .i64 ((bl.getD j (⟨#[]⟩,0)).2:Int))) 247 (0,0))
def hc{o:Nat}{t:TypeId}(h:w.heap[b]?=some (.cells cs t (0,0)))(x:Value):(w.setCell ⟨b,o,none⟩ x).heap[b]?=some (.cells (cs.setIfInBounds o x) t (0,0)):=by unfold World.setCell;simp only[Array.getElem?_modify];rw[if_pos trivial,h];rfl
def afJ{t:TypeId}(h:w.heap[b]?=some (.cells cs t (0,0)))(x y z:Value):(((w.setCell ⟨b,8,none⟩ x).setCell ⟨b,9,none⟩ y).setCell ⟨b,10,none⟩ z).drew.heap[b]?=some (.cells (((cs.setIfInBounds 8 x).setIfInBounds 9 y).setIfInBounds 10 z) t (0,0)):=hc (hc (hc h x) y) z
def afK{S:World}{aB:Nat}{y z:Value}(h:Below aB w W)(H:Below W.heap.size W S)(cr:w.heap.size=aB)(qG:aB<=W.heap.size):da (fun k=>k=b) w (((S.setCell ⟨b,8,none⟩ x).setCell ⟨b,9,none⟩ y).setCell ⟨b,10,none⟩ z).drew:=by
 have A:=h.trans (H.mono qG);refine⟨A.os,A.tape,A.output,?_,fun k hk ar=>?_⟩
 ·show w.heap.size<=(((S.setCell ⟨b,8,none⟩ x).setCell ⟨b,9,none⟩ y).setCell ⟨b,10,none⟩ z).heap.size;rw[size_set,size_set,size_set];exact A.size
 ·show(((S.setCell ⟨b,8,none⟩ x).setCell ⟨b,9,none⟩ y).setCell ⟨b,10,none⟩ z).heap[k]?=_;rw[Below.heap_setCell _ _ _ k (by exact ar),Below.heap_setCell _ _ _ k (by exact ar),Below.heap_setCell _ _ _ k (by exact ar)];exact A.block k r
def afL(nb b i:Nat)(aE bk dZ gp fO jy vd o5 nw rx:Value)(src name:e6)(I:List dC)(w:World)(h:i7 w nb aE I)(X:I.length<=100000)(A:w.heap[b]?=some (.cells #[bk,.string src,.string name,dZ,gp,fO,jy,vd,o5,nw,rx] 247 (0,0)))(ar:oB I src=some i)(hi:i<I.length)(o:Option Nat)(hw:HE I[i].bl name=o):ey 150 #[M nb,M b] w (Ml w b i #[bk,.string src,.string name,dZ,gp,fO,jy,vd,o5,nw,rx] I[i].bl o):=by
 have bc:=(br A).1;have aO:Below w.heap.size w (w.alloc (.cells #[M b] 101)):=cT;have fA:=bH w (.cells #[M b] 101);have ye:=Z fA (i:=0) rfl;have afM:=dr aO (Z A (i:=1) rfl) bc;have aN:=u (HD nb aE I src _ (h.later aO) X);rw[ar] at aN;obtain⟨g,af,gB,dz,bM,b9,dm,nS,Tz,n6,n7,n8⟩:=h.at_ i hi;have cW:Hid (∀J,Below (w.alloc (.cells #[M b] 101)).heap.size (w.alloc (.cells #[M b] 101)) J->dp J nb 1=some (.slice (some ⟨g,0,none⟩) I.length af)/\dp J g (i*2+1)=some (.pointer (some ⟨I[i].iy,0,none⟩))/\dp J (I[i].iy) 1=some (.slice gB I[i].bl.length dz)/\ey 229 #[.slice gB I[i].bl.length dz,.func (.func 230) #[] #[M w.heap.size]] J (gU J (q (nV o)))):=u (fun J bJ=>by
  rw[<-hw];have fT:=aO.trans (bJ.mono aO.size);have aY:w.heap.size<J.heap.size:=e0 (by simp) bJ.size;exact⟨dr fT bM nS,dr fT b9 dm,dr fT Tz n6,afG I[i].bl gB dz (dr bJ ye (by simp)) aY (dr fT (Z A (i:=2) rfl) bc) (e0 bc fT.size) (ee n7 fT) n8⟩)
 have cK:Hid (∀j,o=some j->∃U,gB=some ⟨U,0,none⟩/\dp w U (j*2+1)=some (q ((I[i].bl.getD j (⟨#[]⟩,0)).2:Int))/\U<w.heap.size/\j<I[i].bl.length):=u (fun j aS=>by
  have aD:=Mk (hw.trans aS);obtain⟨U,Y,am,bm⟩:=afI n7 j aD;refine⟨U,Y,?_,bm,aD⟩;rw[am,List.getD_eq_getElem?_getD,fC aD];rfl)
 have b4:=u aO;have afN:=u A;have rG:=u fA;clear fA aO A h ar hw bM b9 dm nS Tz n6 n7 n8;have ar1:(i:Int)<(I.length:Int):=r;have fz:nV (some i)=(i:Int):=rfl;rw[fz] at aN;generalize I[i].iy=Mm at *;generalize I[i].bl=HF at *;cases o with
 | none=>have hV:nV none = -1:=rfl;rw[hV] at cW;clear cK;unfold Ml;go_enter func150,ntmps150;go_upto_region 1 with fail;generalize w.alloc (.cells #[M b] 101)=W at *;generalize cr:w.heap.size=aB at *;have eo:=u cr;clear cr;have qG:aB<W.heap.size:=(br rG.d).1;go_wp2_with (first | (go_at_call 149;refine aN.d.mono ?_;rintro e J ⟨rfl,bJ⟩;obtain⟨m1,m2,m3,fG⟩:=cW.d J bJ) | (go_at_call 229;refine fG.mono ?_;rintro e S ⟨rfl,ah⟩));go_ret;exact⟨rfl,by rw[eo.d];exact(b4.d.trans (bJ.mono r)).trans (ah.mono (by have:=bJ.size;omega))⟩
 | some j=>
  obtain⟨U,rfl,cX,cA,aS⟩:=cK.d j rfl;have hV:nV (some j)=(j:Int):=rfl;rw[hV] at cW;have ar2:(j:Int)<(HF.length:Int):=r;have ch:Hid (∀S,Below (w.alloc (.cells #[M b] 101)).heap.size (w.alloc (.cells #[M b] 101)) S->dp S U (j*2+1)=some (q ((HF.getD j (⟨#[]⟩,0)).2:Int))/\dp S w.heap.size 0=some (M b)/\S.heap[b]?=some (.cells #[bk,.string src,.string name,dZ,gp,fO,jy,vd,o5,nw,rx] 247 (0,0))):=u (fun S ah=>by
   have fT:=b4.d.trans (ah.mono b4.d.size);exact⟨dr fT cX cA,dr ah ye (by simp),(fT.block b bc).trans afN.d⟩)
  clear cK cX cA;have zV:Hid (∃bV,bV=(HF.getD j (⟨#[]⟩,0)).2):=u ⟨_,rfl⟩;obtain⟨afO,Mn⟩:=zV.d;rw[<-Mn] at ch;have lm:Hid (∀e w',(e=.returned (.bool true)/\da (fun k=>k=b) w w'/\w'.heap[b]?=some (.cells (((#[bk,.string src,.string name,dZ,gp,fO,jy,vd,o5,nw,rx].setIfInBounds 8 (q (i:Int))).setIfInBounds 9 (q (j:Int))).setIfInBounds 10 (q (afO:Int))) 247 (0,0)))->Ml w b i #[bk,.string src,.string name,dZ,gp,fO,jy,vd,o5,nw,rx] HF (some j) e w'):=u (by
   intro e w' cf;rw[Mn] at cf;exact cf)
  clear Mn zV;go_enter func150,ntmps150;go_upto_region 1 with fail;generalize w.alloc (.cells #[M b] 101)=W at *;generalize cr:w.heap.size=aB at *;have eo:=u cr;clear cr;have qG:aB<W.heap.size:=(br rG.d).1;go_upto_region 8 with(first | (go_at_call 149;refine aN.d.mono ?_;rintro e J ⟨rfl,bJ⟩;obtain⟨m1,m2,m3,fG⟩:=cW.d J bJ) | (go_at_call 229;refine fG.mono ?_;rintro e S ⟨rfl,ah⟩));have Mo:=bJ.trans (ah.mono bJ.size);obtain⟨p1,p2,fw⟩:=ch.d S Mo;have f8:=aQ (i:=8) fw;have f9:=aQ (i:=9) fw;have f10:=aQ (i:=10) fw;have d8:=Z fw (i:=8) rfl;have d9:=Z fw (i:=9) rfl;have d10:=Z fw (i:=10) rfl;have ua:=u fw;have afP:=u Mo;clear fw Mo ch aN cW fG m1 m2 m3 ye afM;go_region_law (fail);all_goals
   go_wp2_with fail;go_ret;exact lm.d _ _ ⟨rfl,afK b4.d afP.d eo.d r,afJ ua.d _ _ _⟩
def Mp(cs fU:Array Value):Prop:=fU.size=cs.size/\∀i,i<8->fU[i]?=cs[i]?
structure qH (lo hi:Nat) (w w':World):Prop where
 os:w'.os=w.os
 tape:w'.tape=w.tape
 output:w'.output=w.output
 size:w.heap.size<=w'.heap.size
 block:∀k,k<w.heap.size->w'.heap[k]?=w.heap[k]?\/(lo<=k/\k<hi/\∃cs fU,w.heap[k]?=some (.cells cs 247 (0,0))/\w'.heap[k]?=some (.cells fU 247 (0,0))/\Mp cs fU/\∃p0 p1 p2:Int,fU[8]?=some (q p0)/\fU[9]?=some (q p1)/\fU[10]?=some (q p2))
def qH.of(h:Below w.heap.size w w'):qH lo hi w w':=⟨h.os,h.tape,h.output,h.size,fun k hk=>.inl (h.block k hk)⟩
def qH.mono(h:qH lo hi w w')(X:nJ<=lo)(cf:hi<=fM):qH nJ fM w w':=⟨h.os,h.tape,h.output,h.size,fun k hk=>by
 rcases h.block k hk with e | ⟨a,b,C⟩
 ·exact .inl e
 ·exact .inr ⟨r,r,C⟩⟩
def qH.trans{lo hi:Nat}{a b c:World}(h:qH lo hi a b)(g:qH lo hi b c):qH lo hi a c:=by
 refine⟨g.os.trans h.os,g.tape.trans h.tape,g.output.trans h.output,bX h.size g.size,fun k hk=>?_⟩;rcases h.block k hk with e | ⟨l1,bT,cs,fU,Y,am,s1,p⟩
 ·rcases g.block k (e0 hk h.size) with f | ⟨m1,m2,ds,Mq,f1,f2,s2,U⟩
  ·exact .inl (f.trans e)
  ·exact .inr ⟨m1,m2,ds,Mq,e.symm.trans f1,f2,s2,U⟩
 ·rcases g.block k (e0 hk h.size) with f | ⟨m1,m2,ds,Mq,f1,f2,s2,U⟩
  ·exact .inr ⟨l1,bT,cs,fU,Y,f.trans am,s1,p⟩
  ·rw[am] at f1;injection f1 with f1;injection f1 with f1;subst f1;exact .inr ⟨l1,bT,cs,Mq,Y,f2,⟨s2.1.trans s1.1,fun i hi=>(s2.2 i hi).trans (s1.2 i hi)⟩,U⟩
def qH.other(h:qH lo hi w w'){t:TypeId}(e:w.heap[k]?=some (.cells cs t m))(au:t≠247):w'.heap[k]?=some (.cells cs t m):=by
 rcases h.block k (br e).1 with f | ⟨_,_,ds,_,f1,_⟩
 ·exact f.trans e
 ·rw[e] at f1;injection f1 with f1;injection f1 with _ f1;exact absurd f1 au
def qH.d(h:qH lo hi w w')(e:w.heap[k]?=some o)(hk:k<lo\/hi<=k):w'.heap[k]?=some o:=by
 rcases h.block k (br e).1 with f | ⟨a,b,_⟩
 ·exact f.trans e
 ·omega
def qH.row(hs:qH lo hi w w')(au:e≠247){n:Nat}(h:w.ownsRow b e size v n xs):w'.ownsRow b e size v n xs:=by
 refine⟨h.1,?_⟩;rcases h.2 with ar | ⟨g,af,ay,rfl,A,en,rest⟩
 ·exact .inl ar
 ·exact .inr ⟨g,af,ay,rfl,A,hs.other en au,rest⟩
def afQ{bk c1 c2 dZ gp fO jy vd o5 nw rx:Value}(h:Mp #[bk,c1,c2,dZ,gp,fO,jy,vd,o5,nw,rx] cs){p0 p1 p2:Value}(b5:cs[8]?=some p0)(lq:cs[9]?=some p1)(pe:cs[10]?=some p2):cs=#[bk,c1,c2,dZ,gp,fO,jy,vd,p0,p1,p2]:=by
 apply Array.ext_getElem?;intro i;have hs:cs.size=11:=h.1;by_cases hi:i<8
 ·rw[h.2 i hi];match i,hi with
  | 0,_=>rfl
  | 1,_=>rfl
  | 2,_=>rfl
  | 3,_=>rfl
  | 4,_=>rfl
  | 5,_=>rfl
  | 6,_=>rfl
  | 7,_=>rfl
 ·by_cases HG:i<11
  ·rcases(by omega:i=8\/i=9\/i=10) with rfl | rfl | rfl
   ·exact b5
   ·exact lq
   ·exact pe
  ·rw[Array.getElem?_eq_none r,Array.getElem?_eq_none (by simp;omega)]
def df.afR(hs:qH l h w w')(fM:df w lo hi t vs):df w' lo hi t vs:=by
 induction fM with
 | nil h=>exact .nil h
 | cons _ _ h1 H=>exact .cons h1 H
 | node A ah X cf bb aa ag _ _ h1 H=>
  rcases hs.block _ (br aa).1 with f | ⟨_,_,cs,fU,f1,f2,s,p0,p1,p2,k6,q1,bN⟩
  ·exact .node A ah X cf bb (f.trans aa) (hs.row K ag) h1 H
  ·rw[aa] at f1;injection f1 with f1;injection f1 with f1;subst f1;rw[afQ s k6 q1 bN] at f2;exact .node A ah X cf bb f2 (hs.row K ag) h1 H
 | query A ah X cf bb aa j0 eN ir _ _ _ _ h1 H ab aK=>exact .query A ah X cf bb (hs.other aa K) (hs.row K j0) (hs.row K eN) (hs.row K ir) h1 H ab aK
def i7.afR(hs:qH l h w w')(ar:i7 w nb aE I):i7 w' nb aE I:=by obtain⟨a,af,fE,an,ai⟩:=ar;refine⟨a,af,hs.other fE K,hs.row K an,fun s hm=>?_⟩;obtain⟨nB,cJ,fU,h1,H,ab,aK⟩:=ai s hm;exact⟨nB,cJ,fU,hs.other h1 K,H,hs.row K ab,aK⟩
def qH.one(hs:da (fun k=>k=b) w w')(A:w.heap[b]?=some (.cells cs 247 (0,0)))(ff:cs.size=11){p0 p1 p2:Int}(bg:w'.heap[b]?=some (.cells (((cs.setIfInBounds 8 (q p0)).setIfInBounds 9 (q p1)).setIfInBounds 10 (q p2)) 247 (0,0)))(X:lo<=b)(cf:b<hi):qH lo hi w w':=by
 refine⟨hs.os,hs.tape,hs.output,hs.size,fun k hk=>?_⟩;by_cases e:k=b
 ·subst e;refine .inr ⟨X,cf,cs,_,A,bg,⟨by simp,fun i hi=>?_⟩,p0,p1,p2,?_,?_,?_⟩
  ·rw[Array.getElem?_setIfInBounds_ne r,Array.getElem?_setIfInBounds_ne r,Array.getElem?_setIfInBounds_ne r]
  ·rw[Array.getElem?_setIfInBounds_ne r,Array.getElem?_setIfInBounds_ne r,Array.getElem?_setIfInBounds_self_of_lt r]
  ·rw[Array.getElem?_setIfInBounds_ne r,Array.getElem?_setIfInBounds_self_of_lt (by simp;omega)]
  ·rw[Array.getElem?_setIfInBounds_self_of_lt (by simp;omega)]
 ·exact .inl (hs.block k hk e)
structure eb where
 name:e6
 iy:Nat
 bl:List (e6×Nat)
variable{B:List eb}
def nZ(B:List eb)(called:e6)(name:e6):Option dC:=(nK (B.map (·.name)) name).bind fun i=>B[i]?.map fun t=>⟨called,t.iy,t.bl⟩
def hd(B:List eb):List dC->lh->Option (List dC)
 | I,[]=>some I
 | I,s::C=>
  match nZ B s.2 s.1 with
  | none=>none
  | some aq=>if (oB I s.2).isSome then none else hd B (I++[aq]) C
def placeOf(I:List dC)(src name:e6):Option (Nat×Nat×Nat):=(oB I src).bind fun i=>((I[i]?).bind fun s=>(HE s.bl name).map fun j=>(i,j,(s.bl.getD j (⟨#[]⟩,0)).2))
def eh(B:List eb)(I:List dC):aL->Bool
 | .nil=>true
 | .cons h t=>eh B I h&&eh B I t
 | .node k src name _ parts query=>if k=1 then (placeOf I src name).isSome else if k=15 then eh B I query else eh B I parts
 | .query exprs V wh bF uR=>
  decide (V.length<=3)&&(match hd B I V with
   | none=>false
   | some bU=>eh B bU exprs&&eh B bU bF&&eh B bU wh&&eh B bU uR)
structure eu (nb lo hi:Nat) (w w':World):Prop where
 os:w'.os=w.os
 tape:w'.tape=w.tape
 output:w'.output=w.output
 size:w.heap.size<=w'.heap.size
 block:∀k,k<w.heap.size->w'.heap[k]?=w.heap[k]?\/
  (lo<=k/\k<hi/\∃cs fU,w.heap[k]?=some (.cells cs 247 (0,0))/\w'.heap[k]?=some (.cells fU 247 (0,0))/\Mp cs fU/\∃p0 p1 p2:Int,fU[8]?=some (q p0)/\fU[9]?=some (q p1)/\fU[10]?=some (q p2))\/
  (nb<=k/\∃cs m t,(t=151\/t=242)/\w.heap[k]?=some (.cells cs t m))
def eu.of(h:qH lo hi w w'):eu nb lo hi w w':=⟨h.os,h.tape,h.output,h.size,fun k hk=>by
 rcases h.block k hk with e | e
 ·exact .inl e
 ·exact .inr (.inl e)⟩
def eu.mono(h:eu nb lo hi w w')(X:nJ<=lo)(cf:hi<=fM):eu nb nJ fM w w':=⟨h.os,h.tape,h.output,h.size,fun k hk=>by
 rcases h.block k hk with e | ⟨a,b,C⟩ | e
 ·exact .inl e
 ·exact .inr (.inl ⟨r,r,C⟩)
 ·exact .inr (.inr e)⟩
def eu.trans{nb lo hi:Nat}{a b c:World}(h:eu nb lo hi a b)(g:eu nb lo hi b c):eu nb lo hi a c:=by
 refine⟨g.os.trans h.os,g.tape.trans h.tape,g.output.trans h.output,bX h.size g.size,fun k hk=>?_⟩;have dM:=g.block k (e0 hk h.size);rcases h.block k hk with e | ⟨l1,bT,cs,fU,Y,am,s1,p⟩ | ⟨ae,cs,m,t,au,Y⟩
 ·rcases dM with f | ⟨m1,m2,ds,Mq,f1,f2,s2,U⟩ | ⟨ae,ds,n,bp,hu,f1⟩
  ·exact .inl (f.trans e)
  ·exact .inr (.inl ⟨m1,m2,ds,Mq,e.symm.trans f1,f2,s2,U⟩)
  ·exact .inr (.inr ⟨ae,ds,n,bp,hu,e.symm.trans f1⟩)
 ·rcases dM with f | ⟨m1,m2,ds,Mq,f1,f2,s2,U⟩ | ⟨ae,ds,n,bp,hu,f1⟩
  ·exact .inr (.inl ⟨l1,bT,cs,fU,Y,f.trans am,s1,p⟩)
  ·rw[am] at f1;injection f1 with f1;injection f1 with f1;subst f1;exact .inr (.inl ⟨l1,bT,cs,Mq,Y,f2,⟨s2.1.trans s1.1,fun i hi=>(s2.2 i hi).trans (s1.2 i hi)⟩,U⟩)
  ·rw[am] at f1;injection f1 with f1;injection f1 with _ f1;subst f1;rcases hu with hu | hu<;>cases hu
 ·exact .inr (.inr ⟨ae,cs,m,t,au,Y⟩)
def eu.other(h:eu nb lo hi w w'){t:TypeId}(e:w.heap[k]?=some (.cells cs t m))(au:t≠247)(h1:t≠151)(H:t≠242):w'.heap[k]?=some (.cells cs t m):=by
 rcases h.block k (br e).1 with f | ⟨_,_,ds,_,f1,_⟩ | ⟨ae,ds,n,bp,hu,f1⟩
 ·exact f.trans e
 ·rw[e] at f1;injection f1 with f1;injection f1 with _ f1;exact absurd f1 au
 ·rw[e] at f1;injection f1 with f1;injection f1 with _ f1;subst f1;rcases hu with hu | hu
  ·exact absurd hu h1
  ·exact absurd hu H
def eu.row(hs:eu nb lo hi w w')(au:e≠247)(h1:e≠151)(H:e≠242){n:Nat}(h:w.ownsRow b e size v n xs):w'.ownsRow b e size v n xs:=by
 refine⟨h.1,?_⟩;rcases h.2 with ar | ⟨g,af,ay,rfl,A,en,rest⟩
 ·exact .inl ar
 ·exact .inr ⟨g,af,ay,rfl,A,hs.other en au h1 H,rest⟩
def df.n0(hs:eu nb l h w w')(fM:df w lo hi t vs):df w' lo hi t vs:=by
 induction fM with
 | nil h=>exact .nil h
 | cons _ _ h1 H=>exact .cons h1 H
 | node A ah X cf bb aa ag _ _ h1 H=>
  rcases hs.block _ (br aa).1 with f | ⟨_,_,cs,fU,f1,f2,s,p0,p1,p2,k6,q1,bN⟩ | ⟨ae,ds,n,bp,hu,f1⟩
  ·exact .node A ah X cf bb (f.trans aa) (hs.row K K K ag) h1 H
  ·rw[aa] at f1;injection f1 with f1;injection f1 with f1;subst f1;rw[afQ s k6 q1 bN] at f2;exact .node A ah X cf bb f2 (hs.row K K K ag) h1 H
  ·rw[aa] at f1;injection f1 with f1;injection f1 with _ f1;subst f1;rcases hu with hu | hu<;>cases hu
 | query A ah X cf bb aa j0 eN ir _ _ _ _ h1 H ab aK=>exact .query A ah X cf bb (hs.other aa K K K) (hs.row K K K j0) (hs.row K K K eN) (hs.row K K K ir) h1 H ab aK
def rH(bs:List Bool)(j:Nat):Prop:=∀i (h:i<bs.length),i<j->bs[i]=true
def Mr(h:rH bs bs.length):bs.all id=true:=by rw[List.all_eq_true];intro b A;obtain⟨i,hi,rfl⟩:=List.mem_iff_getElem.1 A;exact h i hi hi
def afS(aS:j<bs.length)(e:bs[j]=false):bs.all id=false:=by rw[List.all_eq_false];exact⟨_,ec aS,by simp[e]⟩
def afT(nb b k:Nat)(bZ:k≠1)(HH:k≠15)(co:Value)(vs:List Value)(bs:List Bool)(b7:vs.length=bs.length)(X:vs.length<=100000)(w:World)(hk:dp w b 0=some (q (k:Int)))(zT:dp w b 6=some co)(Rel:Nat->World->Prop)(pT:World->Prop)(aw:Rel 0 w)(an:∀j w',Rel j w'->eK w' co vs)(mg:∀j (h:j<vs.length) (H:j<bs.length) w',Rel j w'->ey 101 #[M nb,vs[j]] w' fun e bW=>e=.returned (.bool bs[j])/\(bs[j]=true->Rel (j+1) bW)/\(bs[j]=false->pT bW)):ey 101 #[M nb,M b] w fun e w'=>e=.returned (.bool (bs.all id))/\(bs.all id=true->Rel vs.length w')/\(bs.all id=false->pT w'):=by
 have hv:co=.slice none 0 0/\vs=[]\/∃g af,co=.slice (some ⟨g,0,none⟩) vs.length af:=by
  have ag:=an 0 w aw;by_cases aw:0<vs.length
  ·obtain⟨g,af,e,_⟩:=ag.cell 0 aw;exact .inr ⟨g,af,e⟩
  ·have c7:vs=[]:=ma r;subst c7;rcases ag.2 with⟨e,_⟩ | ⟨g,af,ay,e,_⟩
   ·exact .inl ⟨e,rfl⟩
   ·exact .inr ⟨g,af,e⟩
 have aI:((k:Int)==1)=false:=by rw[cV];omega
 have yf:((k:Int)==15)=false:=by rw[cV];omega
 have fk:=u b7;have e9:=u an;have iz:=u mg;have yg:=u aw;clear b7 an mg aw bZ HH;rcases hv with⟨rfl,rfl⟩ | ⟨g,af,rfl⟩
 ·obtain rfl:bs=[]:=ma fk.d.symm;clear iz e9 fk;go_enter func101,ntmps101;go_wp2_with fail;refine wp_loop_rounds 1 ?_;rw[rounds_succ];go_wp2_with fail;go_ret;exact⟨rfl,(fun _=>yg.d),(fun h=>by cases h)⟩
 ·go_enter func101,ntmps101;go_wp2_with fail;go_loopg [6,29] (vs.length+1) (fun U _ i wr=>∃j:Nat,j<=vs.length/\i=q (j:Int)/\Hid (rH bs j)/\Hid (Rel j wr)/\vs.length-j<U);case atStart=>exact⟨0,bu,rfl,u (fun i _ hi=>absurd hi (fp _)),yg,r⟩
  case round=>
   obtain⟨j,aS,rfl,cq,hrel,ae⟩:=hrel;by_cases aD:j<vs.length
   ·have cL:(j:Int)<(vs.length:Int):=r;have i6:j<bs.length:=by have:=fk.d;omega
    obtain⟨dM,cJ,bo,bk⟩:=(e9.d j wr hrel.d).cell j aD;obtain⟨rfl,rfl⟩:g=dM/\af=cJ:=by injection bo with Y am bm;injection Y with Y;injection Y with Y;exact⟨Y,bm⟩
    have fr:IntKind.i64.wrap ((j:Int)+1)=(j:Int)+1:=mC;have ch:=u ae;have aN:=u (iz.d j aD i6 wr hrel.d);have bn:Hid (∀b,bs[j]=b->(b=true->rH bs (j+1))/\(b=false->bs.all id=false)):=u (fun b bg=>⟨fun e a ak cf=>by
     by_cases Y:a=j
     ·subst Y;exact bg.trans e
     ·exact cq.d a ak r,fun e=>afS i6 (bg.trans e)⟩)
    generalize bs[j]=hb at aN bn;have eS:=u (bn.d hb rfl);generalize vs[j]=x at *;clear bn cq ae bo hrel;cases hb
    ·have bj:=u (eS.d.2 rfl);clear eS;go_wp2_with (go_at_call 101;refine aN.d.mono ?_;rintro e S ⟨rfl,_,Eo⟩);go_ret;exact⟨by rw[bj.d];rfl,(fun h=>absurd (h.symm.trans bj.d) K),(fun _=>Eo (by simp))⟩
    ·have bj:=u (eS.d.1 rfl);clear eS;go_wp2_with (go_at_call 101;refine aN.d.mono ?_;rintro e S ⟨rfl,eN,_⟩);have ae:=ch.d;go_roundg (vs.length-j);case measure=>omega
     case rel=>exact⟨j+1,r,by go_num,bj,u (eN (by simp)),r⟩
   ·have cL:(vs.length:Int)<=(j:Int):=r;have eZ:j=vs.length:=r;have bj:=u (Mr (fun a ak _=>cq.d a ak (by have:=fk.d;omega)));have cK:=u (eZ▸hrel.d);clear cq ae eZ hrel;go_wp2_with fail;go_ret;exact⟨by rw[bj.d];rfl,(fun _=>cK.d),(fun h=>absurd (h.symm.trans bj.d) K)⟩
def mu(w:World)(aE:Value)(B:List eb):Prop:=w.ownsRow 0 83 1 aE (B.map (·.iy)).length (rz (B.map (·.iy)))/\B.length<=1000/\∀t∈B,(∃cs,w.heap[t.iy]?=some (.cells cs 137 (0,0))/\cs[0]?=some (.string t.name))/\∀c,Mj w ⟨c,t.iy,t.bl⟩
def mu.n0(hs:eu nb l h w w')(au:mu w aE B):mu w' aE B:=by obtain⟨h1,H,ab⟩:=au;refine⟨hs.row K K K h1,H,fun t hm=>?_⟩;obtain⟨⟨cs,aI,aZ⟩,a6⟩:=ab t hm;refine⟨⟨cs,hs.other aI K K K,aZ⟩,fun c=>?_⟩;obtain⟨nB,cJ,fU,h1,H,ab,aK⟩:=a6 c;exact⟨nB,cJ,fU,hs.other h1 K K K,H,hs.row K K K ab,aK⟩
def Ms(h:mu w aE B)(name:e6):ey 30 #[aE,.string name] w (ov w (rA (B.map (·.iy)) (nK (B.map (·.name)) name))):=by
 refine Lw aE _ _ name 0 w h.1 (by simp) (by simpa using h.2.1) (fun i hi H=>?_);have fM:i<B.length:=by simpa using hi
 obtain⟨⟨cs,aI,aZ⟩,_⟩:=h.2.2 B[i] (ec fM);rw[List.getElem_map,List.getElem_map];exact Z aI aZ
def mu.heap(h:mu w aE B)(A:Below w.heap.size w w'):mu w' aE B:=mu.n0 (nb:=0) (l:=0) (h:=0) (eu.of (qH.of A)) h
def afU(nb:Nat)(aE:Value)(B:List eb)(I:List dC)(aX cH:e6)(w:World)(au:mu w aE B)(h:i7 w nb aE I)(av:nK (B.map (·.name)) aX=none):ey 100 #[M nb,.agg #[.string aX,.string cH]] w (gU w (.bool false)):=by
 have aO:Below w.heap.size w (w.alloc (.cells #[.string aX,.string cH] 161)):=cT;have fA:=bH w (.cells #[.string aX,.string cH] 161);obtain⟨a,af,fE,_⟩:=h;have bk:=dr aO (Z fE (i:=0) rfl) (br fE).1;have hr:=Z fA (i:=0) rfl;have bj:Hid (∀aU,Below (w.alloc (.cells #[.string aX,.string cH] 161)).heap.size (w.alloc (.cells #[.string aX,.string cH] 161)) aU->ey 30 #[aE,.string aX] aU (ov aU (.pointer none))):=u (fun aU A=>by
  have:=Ms ((au.heap aO).heap A) aX;rw[av] at this;exact this)
 have b4:=u aO;clear fA aO au av fE;go_enter func100,ntmps100;go_upto_region 1 with fail;generalize w.alloc (.cells #[.string aX,.string cH] 161)=W at *;generalize cr:w.heap.size=aB at *;have eo:=u cr;clear cr;go_region_held3 (fun w'=>w'.cell? ⟨nb,0,none⟩=some aE/\w'.cell? ⟨aB,0,none⟩=some (.string aX)) (go_keep) (first | (go_at_call 30;refine(bj.d W.drew ⟨rfl,rfl,rfl,ap,fun _ _=>rfl⟩).mono ?_;rintro e J ⟨rfl,rfl⟩));all_goals
  go_wp2_with fail;go_ret;exact⟨rfl,by rw[eo.d];exact b4.d.trans ⟨rfl,rfl,rfl,ap,fun _ _=>rfl⟩⟩
def afV(nb i U:Nat)(aE:Value)(B:List eb)(I:List dC)(aX cH:e6)(w:World)(au:mu w aE B)(h:i7 w nb aE I)(X:I.length<=100000)(av:nK (B.map (·.name)) aX=some i)(hw:oB I cH=some U):ey 100 #[M nb,.agg #[.string aX,.string cH]] w (gU w (.bool false)):=by
 have aO:Below w.heap.size w (w.alloc (.cells #[.string aX,.string cH] 161)):=cT;have fA:=bH w (.cells #[.string aX,.string cH] 161);have bn:Hid (∀aU,Below (w.alloc (.cells #[.string aX,.string cH] 161)).heap.size (w.alloc (.cells #[.string aX,.string cH] 161)) aU->ey 149 #[M nb,.string cH] aU (gU aU (q (U:Int)))):=u (fun aU A=>by
  have:=HD nb aE I cH aU ((h.later aO).later A) X;rw[hw] at this;exact this)
 obtain⟨a,af,fE,_⟩:=h;have bk:=dr aO (Z fE (i:=0) rfl) (br fE).1;have hr:=Z fA (i:=0) rfl;have cN:=Z fA (i:=1) rfl;have bj:Hid (∀aU,Below (w.alloc (.cells #[.string aX,.string cH] 161)).heap.size (w.alloc (.cells #[.string aX,.string cH] 161)) aU->ey 30 #[aE,.string aX] aU (ov aU (.pointer (some ⟨(B.map (·.iy)).getD i 0,0,none⟩)))):=u (fun aU A=>by
  have:=Ms ((au.heap aO).heap A) aX;rw[av] at this;exact this)
 have b4:=u aO;clear fA aO au av fE hw;generalize (B.map (·.iy)).getD i 0=Mm at *;go_enter func100,ntmps100;go_upto_region 1 with fail;generalize w.alloc (.cells #[.string aX,.string cH] 161)=W at *;generalize cr:w.heap.size=aB at *;have eo:=u cr;clear cr;have qG:aB<=W.heap.size:=by have a:=b4.d.size;have b:=eo.d;omega
 go_region_held3 (fun w'=>w'.cell? ⟨nb,0,none⟩=some aE/\w'.cell? ⟨aB,0,none⟩=some (.string aX)) (go_keep) (first | (go_at_call 30;refine(bj.d W.drew ⟨rfl,rfl,rfl,ap,fun _ _=>rfl⟩).mono ?_;rintro e J ⟨rfl,rfl⟩));all_goals
  go_wp2_with (go_at_call 149;refine(bn.d W.drew ⟨rfl,rfl,rfl,ap,fun _ _=>rfl⟩).mono ?_;rintro e S ⟨rfl,ah⟩);go_ret;exact⟨rfl,by rw[eo.d];exact b4.d.drew.trans (ah.mono qG)⟩
def afW:(prog.info? 242).map (fun i=>(i.zero,i.size,i.bytes))=some (some (.agg #[.string ⟨#[]⟩,.pointer none]),2,24):=ax
def afX(nb i:Nat)(aE:Value)(B:List eb)(I:List dC)(aX cH:e6)(w:World)(au:mu w aE B)(h:i7 w nb aE I)(X:I.length<=90000)(av:nK (B.map (·.name)) aX=some i)(hw:oB I cH=none):ey 100 #[M nb,.agg #[.string aX,.string cH]] w fun e w'=>e=.returned (.bool true)/\∃(h5 bh:World) (a:Option Addr) (af g5 ml:Nat),Below w.heap.size w h5/\h5.heap[nb]?=some (.cells #[aE,.slice a I.length af] 151 (0,0))/\h5.ownsRow nb 242 2 (.slice a I.length af) I.length (h4 (I.map rF))/\(h5.alloc (.cells #[.string cH,.pointer (some ⟨(B.map (·.iy)).getD i 0,0,none⟩)] 242)).drew.grownBy bh (Value.slice a I.length af).ownBlock/\bh.ownsRow nb 242 2 (.slice (some ⟨g5,0,none⟩) (I.length+1) ml) (I.length+1) (h4 (I.map rF)++[.string cH,.pointer (some ⟨(B.map (·.iy)).getD i 0,0,none⟩)])/\w'.heap=(bh.setCell ⟨nb,1,none⟩ (.slice (some ⟨g5,0,none⟩) (I.length+1) ml)).heap/\w'.os=bh.os/\w'.tape=bh.tape/\w'.output=bh.output:=by
 obtain⟨i0,nM,gj,gx,cd⟩:=info_parts afW;have aO:Below w.heap.size w (w.alloc (.cells #[.string aX,.string cH] 161)):=cT;have fA:=bH w (.cells #[.string aX,.string cH] 161);have bn:Hid (∀aU,Below (w.alloc (.cells #[.string aX,.string cH] 161)).heap.size (w.alloc (.cells #[.string aX,.string cH] 161)) aU->ey 149 #[M nb,.string cH] aU (gU aU (q (-1)))):=u (fun aU A=>by
  have:=HD nb aE I cH aU ((h.later aO).later A) r;rw[hw] at this;exact this)
 obtain⟨a,af,fE,an,_⟩:=h;have bk:=dr aO (Z fE (i:=0) rfl) (br fE).1;have hr:=Z fA (i:=0) rfl;have cN:=Z fA (i:=1) rfl;have bj:Hid (∀aU,Below (w.alloc (.cells #[.string aX,.string cH] 161)).heap.size (w.alloc (.cells #[.string aX,.string cH] 161)) aU->ey 30 #[aE,.string aX] aU (ov aU (.pointer (some ⟨(B.map (·.iy)).getD i 0,0,none⟩)))):=u (fun aU A=>by
  have:=Ms ((au.heap aO).heap A) aX;rw[av] at this;exact this)
 have cW:Hid (∀S,Below (w.alloc (.cells #[.string aX,.string cH] 161)).heap.size (w.alloc (.cells #[.string aX,.string cH] 161)) S->S.heap[nb]?=some (.cells #[aE,.slice a I.length af] 151 (0,0))/\S.ownsRow nb 242 2 (.slice a I.length af) I.length (h4 (I.map rF))/\dp S w.heap.size 1=some (.string cH)/\Below w.heap.size w S):=u (fun S ah=>by
  have fT:=aO.trans (ah.mono aO.size);exact⟨(fT.block nb (br fE).1).trans fE,ee an fT,dr ah cN (by simp),fT⟩)
 clear fA aO au av fE hw an;generalize (B.map (·.iy)).getD i 0=Mm at *;generalize h4 (I.map rF)=xs at *;go_enter func100,ntmps100;go_upto_region 1 with fail;generalize w.alloc (.cells #[.string aX,.string cH] 161)=W at *;generalize cr:w.heap.size=aB at *;have eo:=u cr;clear cr;go_region_held3 (fun w'=>w'.cell? ⟨nb,0,none⟩=some aE/\w'.cell? ⟨aB,0,none⟩=some (.string aX)) (go_keep) (first | (go_at_call 30;refine(bj.d W.drew ⟨rfl,rfl,rfl,ap,fun _ _=>rfl⟩).mono ?_;rintro e J ⟨rfl,rfl⟩));go_upto_region 4 with(go_at_call 149;refine(bn.d W.drew ⟨rfl,rfl,rfl,ap,fun _ _=>rfl⟩).mono ?_;rintro e S ⟨rfl,ah⟩);obtain⟨p1,iF,fw,pf⟩:=cW.d S ((⟨rfl,rfl,rfl,ap,fun _ _=>rfl⟩:Below W.heap.size W W.drew).trans ah);have Y:dp S nb 1=some (.slice a I.length af):=Z p1 (i:=1) rfl
 have tS:(Value.slice a I.length af).ownBlock≠some nb:=sD iF p1 K;have la:nb<S.heap.size:=(br p1).1;have Ep:=u p1;have afY:=u pf;clear p1 pf bn bj cW ah bk hr cN
 go_region_law (refine step_append_lies _ (by rfl) _ _ 149 (by rfl) nb 242 i0 (.agg #[.string ⟨#[]⟩,.pointer none]) 2 24 underlying149 nM gj gx cd rfl K (.slice a I.length af) I.length xs (by rfl) (iF.alloc _) ⟨S.heap.size,0,none⟩ 1 1 [.string cH,M Mm] (by rfl) (by rfl) (J9 _ _ _ _) (by simp[Value.oneCell']) K (by unfold maxLen;omega) r (by show nb<=(S.alloc _).heap.size;rw[cc];omega) (S.heap.size+1) (by simp) ?_;intro g5 ml bh py jE tc xu;have iR:bh.heap[nb]?=some (.cells #[aE,.slice a I.length af] 151 (0,0)):=(jE.block nb (by simp;omega) (fun e=>tS e.symm)).trans ((Below.heap_alloc S _ nb la).trans Ep.d);have d1:=Z iR (i:=1) rfl;have Qj:=aQ (i:=1) iR);all_goals
  have zW:=u jE;have afZ:=u py;clear jE py iR d1 Qj tc xu;go_wp2_with fail;go_ret;exact⟨rfl,S,bh,a,af,g5,ml,by rw[eo.d];exact afY.d,Ep.d,iF,zW.d,afZ.d,rfl,rfl,rfl,rfl⟩
def af0(l:List (Value×Value))(x:Value×Value):h4 (l++[x])=h4 l++[x.1,x.2]:=by simp[h4]
def af1(nb i:Nat)(aE:Value)(B:List eb)(I:List dC)(aX cH:e6)(w:World)(au:mu w aE B)(h:i7 w nb aE I)(X:I.length<=90000)(aq:eb)(av:nK (B.map (·.name)) aX=some i)(bb:B[i]?=some aq)(hw:oB I cH=none):ey 100 #[M nb,.agg #[.string aX,.string cH]] w fun e w'=>e=.returned (.bool true)/\i7 w' nb aE (I++[⟨cH,aq.iy,aq.bl⟩])/\eu nb 0 0 w w':=by
 refine(afX nb i aE B I aX cH w au h X av hw).mono ?_;rintro e w' ⟨rfl,h5,bh,a,af,g5,ml,A,fE,an,R,fs,Er,pU,Es,af2⟩;have af3:(B.map (·.iy)).getD i 0=aq.iy:=by rw[List.getD_eq_getElem?_getD,List.getElem?_map,bb];rfl
 rw[af3] at R fs;have la:nb<h5.heap.size:=(br fE).1;have tS:(Value.slice a I.length af).ownBlock≠some nb:=sD an fE K;have ff:h5.heap.size+1<=bh.heap.size:=by have:=R.size;simpa using this
 have iR:bh.heap[nb]?=some (.cells #[aE,.slice a I.length af] 151 (0,0)):=(R.block nb (by show nb<(h5.alloc _).heap.size;simp;omega) (fun e=>tS e.symm)).trans ((Below.heap_alloc h5 _ nb la).trans fE);have cS:eu nb 0 0 w w':=by
  refine⟨pU.trans (R.os.trans A.os),Es.trans (R.tape.trans A.tape),af2.trans (R.output.trans A.output),?_,fun k hk=>?_⟩
  ·rw[Er,size_set];have:=A.size;omega
  ·by_cases Y:k=nb
   ·subst Y;exact .inr (.inr ⟨ap,_,_,_,.inl rfl,(A.block k hk).symm.trans fE⟩)
   ·by_cases am:(Value.slice a I.length af).ownBlock=some k
    ·rcases an.2 with⟨bo,_⟩ | ⟨g,cJ,ay,bo,rI,ed,_⟩
     ·rw[bo] at am;cases am
     ·rw[bo] at am;obtain rfl:g=k:=by simpa [Value.ownBlock] using am
      exact .inr (.inr ⟨rI,_,_,_,.inr rfl,(A.block g hk).symm.trans ed⟩)
    ·left;have dR:k<h5.heap.size:=e0 hk A.size;rw[Er,Below.heap_setCell _ _ _ k Y,R.block k (by show k<(h5.alloc _).heap.size;simp;omega) (fun e=>am e.symm)];exact(Below.heap_alloc h5 _ k dR).trans (A.block k hk)
 refine⟨rfl,?_,cS⟩;have LK:=sD fs iR K;have wg:iB nb (bh.setCell ⟨nb,1,none⟩ (.slice (some ⟨g5,0,none⟩) (I.length+1) ml)) w':=fun k _ _=>by rw[Er]
 have c4:iB 0 (bh.setCell ⟨nb,1,none⟩ (.slice (some ⟨g5,0,none⟩) (I.length+1) ml)) w':=fun k _ _=>by rw[Er]
 have b7:(I++[(⟨cH,aq.iy,aq.bl⟩:dC)]).length=I.length+1:=by simp
 refine⟨some ⟨g5,0,none⟩,ml,?_,?_,fun s hs=>?_⟩
 ·rw[Er,b7];exact hc iR _
 ·rw[b7,List.map_append,List.map_singleton,af0];exact wg.row (ownsRow_setCell_other fs LK _)
 ·have ai:Mj w s:=by
   rcases ax5 hs with hs | hs
   ·obtain⟨_,_,_,_,ai⟩:=h;exact ai s hs
   ·obtain rfl:=ic hs;exact(au.2.2 aq (List.mem_of_getElem? bb)).2 cH
  obtain⟨nB,cJ,fU,h1,H,ab,aK⟩:=ai;exact⟨nB,cJ,fU,cS.other h1 K K K,H,cS.row K K K ab,aK⟩
def af4(nb b:Nat)(w:World)(hk:dp w b 0=some (q 1))(Q:Bool->World->Prop)(h:ey 150 #[M nb,M b] w fun e w'=>∃C,e=.returned (.bool C)/\Q C w'):ey 101 #[M nb,M b] w fun e w'=>∃C,e=.returned (.bool C)/\Q C w':=by have eW:=u h;clear h;go_enter func101,ntmps101;go_wp2_with (go_at_call 150;refine eW.d.mono ?_;rintro e J ⟨C,rfl,ae⟩);go_ret;exact⟨C,rfl,ae⟩
def af5(nb b:Nat)(BS:Addr)(w:World)(hk:dp w b 0=some (q 15))(ae:dp w b 7=some (.pointer (some BS)))(Q:Bool->World->Prop)(h:ey 66 #[M nb,.pointer (some BS)] w fun e w'=>∃C,e=.returned (.bool C)/\Q C w'):ey 101 #[M nb,M b] w fun e w'=>∃C,e=.returned (.bool C)/\Q C w':=by have eW:=u h;clear h;go_enter func101,ntmps101;go_wp2_with (go_at_call 66;refine eW.d.mono ?_;rintro e J ⟨C,rfl,ae⟩);go_ret;exact⟨C,rfl,ae⟩
def af6(nb aW n:Nat)(a:Option Addr)(af:Nat)(w:World)(hs:dp w aW 1=some (.slice a n af))(ar:3<n):ey 66 #[M nb,M aW] w (ov w (.bool false)):=by have ab:(3:Int)<(n:Int):=r;clear ar;go_enter func66,ntmps66;go_wp2_with fail;go_ret;exact⟨rfl,rfl⟩
def HI(l:lh):lj l=h4 (l.map fun s=>(.string s.1,.string s.2)):=by
 induction l with
 | nil=>rfl
 | cons x C aH=>simp[lj,h4] at aH ⊢;exact aH
def af7(nb aW:Nat)(eD:Option Addr)(hJ oC:Nat)(rJ:Option Addr)(wE:Nat)(V:lh)(bs:List Bool)(b7:V.length=bs.length)(ar:V.length<=3)(w:World)(hs:dp w aW 1=some (.slice eD V.length hJ))(fE:dp w nb 1=some (.slice rJ oC wE))(Rel:Nat->World->Prop)(pT:World->Prop)(aw:Rel 0 w)(c4:∀j w' bW,Rel j w'->Below w'.heap.size w' bW->Rel j bW)(an:∀j w',Rel j w'->w'.ownsRow 0 161 2 (.slice eD V.length hJ) V.length (lj V))(mg:∀j (h:j<V.length) (H:j<bs.length) w',Rel j w'->ey 100 #[M nb,.agg #[.string V[j].1,.string V[j].2]] w' fun e bW=>e=.returned (.bool bs[j])/\(bs[j]=true->Rel (j+1) bW)/\(bs[j]=false->pT bW))(fF:bs.all id=false):ey 66 #[M nb,M aW] w fun e w'=>e=.returned (.bool false)/\pT w':=by
 have ab:¬(3:Int)<(V.length:Int):=r;have fk:=u b7;have e9:=u an;have iz:=u mg;have ry:=u c4;have yg:=u aw;have Et:=u fF;clear b7 an mg c4 aw fF;go_enter func66,ntmps66;go_wp2_with fail;go_loopg [26] (V.length+1) (fun U i wr=>∃j:Nat,j<=V.length/\i=q (j:Int)/\Hid (rH bs j)/\Hid (Rel j wr)/\V.length-j<U);case atStart=>exact⟨0,bu,rfl,u (fun i _ hi=>absurd hi (fp _)),yg,r⟩
 case round=>
  obtain⟨j,aS,rfl,cq,hrel,ae⟩:=hrel;by_cases aD:j<V.length
  ·have cL:(j:Int)<(V.length:Int):=r;have i6:j<bs.length:=by have:=fk.d;omega
   have an:=e9.d j wr hrel.d;rw[HI] at an;have ve:j<(V.map fun s=>((.string s.1:Value),(.string s.2:Value))).length:=by rw[cZ];exact aD
   obtain⟨h1,H⟩:=yd (V.map fun s=>((.string s.1:Value),(.string s.2:Value))) j ve;rw[List.getElem_map] at h1 H;rcases an.2 with⟨bo,aw⟩ | ⟨g,cJ,ay,bo,eI,ed,-⟩
   ·omega
   obtain⟨rfl,rfl⟩:eD=some ⟨g,0,none⟩/\hJ=cJ:=by injection bo with Y am bm;exact⟨Y,bm⟩
   have ef:g<wr.heap.size:=(br ed).1;have rI:¬g=wr.heap.size:=r;have c1:dp wr g (j*2)=some (.string V[j].1):=by have:=an.cells rfl _ _ h1;rwa [Addr.add_lit,ax1] at this
   have c2:dp wr g (j*2+1)=some (.string V[j].2):=by have:=an.cells rfl _ _ H;rwa [Addr.add_lit,ax1] at this
   have fr:IntKind.i64.wrap ((j:Int)+1)=(j:Int)+1:=mC;have ch:=u ae;have aN:Hid (∀aU,Below wr.heap.size wr aU->ey 100 #[M nb,.agg #[.string V[j].1,.string V[j].2]] aU fun e bW=>e=.returned (.bool bs[j])/\(bs[j]=true->Rel (j+1) bW)/\(bs[j]=false->pT bW)):=u (fun aU A=>iz.d j aD i6 aU (ry.d j wr aU hrel.d A));have bn:Hid (∀b,bs[j]=b->b=true->rH bs (j+1)):=u (fun b bg e a ak cf=>by
    by_cases Y:a=j
    ·subst Y;exact bg.trans e
    ·exact cq.d a ak r)
   generalize bs[j]=hb at aN bn;have eS:=u (bn.d hb rfl);generalize V[j].1=ha at *;generalize V[j].2=jJ at *;clear bn cq ae bo hrel h1 H an ed ve;cases hb
   ·clear eS;go_wp2_with (go_at_call 100;refine(aN.d _ cT).mono ?_;rintro e S ⟨rfl,_,Eo⟩);go_ret;exact⟨rfl,Eo (by simp)⟩
   ·have bj:=u (eS.d rfl);clear eS;go_wp2_with (go_at_call 100;refine(aN.d _ cT).mono ?_;rintro e S ⟨rfl,eN,_⟩);have ae:=ch.d;go_roundg (V.length-j);case measure=>omega
    case rel=>exact⟨j+1,r,by go_num,bj,u (eN (by simp)),r⟩
  ·have bj:=Mr (bs:=bs) (fun a ak _=>cq.d a ak (by have:=fk.d;omega));have:=Et.d;rw[bj] at this;cases this
def af8(nb aW:Nat)(eD:Option Addr)(hJ oC:Nat)(rJ:Option Addr)(wE:Nat)(V:lh)(bs:List Bool)(b7:V.length=bs.length)(ar:V.length<=3)(w:World)(hs:dp w aW 1=some (.slice eD V.length hJ))(fE:dp w nb 1=some (.slice rJ oC wE))(Rel:Nat->World->Prop)(pT:World->Prop)(aw:Rel 0 w)(c4:∀j w' bW,Rel j w'->Below w'.heap.size w' bW->Rel j bW)(an:∀j w',Rel j w'->w'.ownsRow 0 161 2 (.slice eD V.length hJ) V.length (lj V))(mg:∀j (h:j<V.length) (H:j<bs.length) w',Rel j w'->ey 100 #[M nb,.agg #[.string V[j].1,.string V[j].2]] w' fun e bW=>e=.returned (.bool bs[j])/\(bs[j]=true->Rel (j+1) bW)/\(bs[j]=false->pT bW))(yh:bs.all id=true)(xs:List Value)(cs:List Bool)(sq:xs.length=cs.length)(BG:xs.length<=100000)(rK:Value->Nat->World->Prop)(ub:∀w',Rel V.length w'->ey 99 #[M aW] w' fun e bW=>∃c9,e=.returned c9/\rK c9 0 bW)(ej:∀c9 j w',rK c9 j w'->eK w' c9 xs)(Eu:∀c9 j (h:j<xs.length) (H:j<cs.length) w',rK c9 j w'->ey 101 #[M nb,xs[j]] w' fun e bW=>e=.returned (.bool cs[j])/\(cs[j]=true->rK c9 (j+1) bW)/\(cs[j]=false->pT bW))(fF:cs.all id=false):ey 66 #[M nb,M aW] w fun e w'=>e=.returned (.bool false)/\pT w':=by
 have ab:¬(3:Int)<(V.length:Int):=r;have fk:=u b7;have e9:=u an;have iz:=u mg;have ry:=u c4;have yg:=u aw;have Et:=u fF;have HJ:=u sq;have Ev:=u ub;have BT:=u ej;have mT:=u Eu;have Mt:=u yh;clear b7 an mg c4 aw fF sq ub ej Eu yh;go_enter func66,ntmps66;go_wp2_with fail;go_loopg [26] (V.length+1) (fun U i wr=>∃j:Nat,j<=V.length/\i=q (j:Int)/\Hid (rH bs j)/\Hid (Rel j wr)/\V.length-j<U);case atStart=>exact⟨0,bu,rfl,u (fun i _ hi=>absurd hi (fp _)),yg,r⟩
 case round=>
  obtain⟨j,aS,rfl,cq,hrel,ae⟩:=hrel;by_cases aD:j<V.length
  ·have cL:(j:Int)<(V.length:Int):=r;have i6:j<bs.length:=by have:=fk.d;omega
   have an:=e9.d j wr hrel.d;rw[HI] at an;have ve:j<(V.map fun s=>((.string s.1:Value),(.string s.2:Value))).length:=by rw[cZ];exact aD
   obtain⟨h1,H⟩:=yd (V.map fun s=>((.string s.1:Value),(.string s.2:Value))) j ve;rw[List.getElem_map] at h1 H;rcases an.2 with⟨bo,aw⟩ | ⟨g,cJ,ay,bo,eI,ed,-⟩
   ·omega
   obtain⟨rfl,rfl⟩:eD=some ⟨g,0,none⟩/\hJ=cJ:=by injection bo with Y am bm;exact⟨Y,bm⟩
   have ef:g<wr.heap.size:=(br ed).1;have rI:¬g=wr.heap.size:=r;have c1:dp wr g (j*2)=some (.string V[j].1):=by have:=an.cells rfl _ _ h1;rwa [Addr.add_lit,ax1] at this
   have c2:dp wr g (j*2+1)=some (.string V[j].2):=by have:=an.cells rfl _ _ H;rwa [Addr.add_lit,ax1] at this
   have fr:IntKind.i64.wrap ((j:Int)+1)=(j:Int)+1:=mC;have ch:=u ae;have aN:Hid (∀aU,Below wr.heap.size wr aU->ey 100 #[M nb,.agg #[.string V[j].1,.string V[j].2]] aU fun e bW=>e=.returned (.bool bs[j])/\(bs[j]=true->Rel (j+1) bW)/\(bs[j]=false->pT bW)):=u (fun aU A=>iz.d j aD i6 aU (ry.d j wr aU hrel.d A));have bn:Hid (∀b,bs[j]=b->b=true->rH bs (j+1)):=u (fun b bg e a ak cf=>by
    by_cases Y:a=j
    ·subst Y;exact bg.trans e
    ·exact cq.d a ak r)
   have BU:bs[j]=true:=(List.all_eq_true.1 Mt.d) _ (ec i6);rw[BU] at aN bn;have eS:=u (bn.d true rfl);generalize V[j].1=ha at *;generalize V[j].2=jJ at *;clear bn cq ae bo hrel h1 H an ed ve;have bj:=u (eS.d rfl);clear eS;go_wp2_with (go_at_call 100;refine(aN.d _ cT).mono ?_;rintro e S ⟨rfl,eN,_⟩);have ae:=ch.d;go_roundg (V.length-j);case measure=>omega
   case rel=>exact⟨j+1,r,by go_num,bj,u (eN (by simp)),r⟩
  ·have eZ:j=V.length:=r;have cK:=u (eZ▸hrel.d);have cL:(V.length:Int)<=(j:Int):=r;clear cq hrel ae iz e9 ry;have Ew:=u (Ev.d wr cK.d);go_wp2_with (go_at_call 99;refine Ew.d.mono ?_;rintro e S ⟨c9,rfl,eN⟩;have Ex:=cG (BT.d c9 0 S eN);obtain⟨b6,zX,rfl⟩:=Ex);have gJ:=u eN;clear eN Ew Ev cK;go_loopg [38] (xs.length+1) (fun U i wr=>∃j:Nat,j<=xs.length/\i=q (j:Int)/\Hid (rH cs j)/\Hid (rK (.slice b6 xs.length zX) j wr)/\xs.length-j<U);case atStart=>exact⟨0,bu,rfl,u (fun i _ hi=>absurd hi (fp _)),gJ,r⟩
   case round=>
    obtain⟨dL,kv,rfl,cq,hrel,ae⟩:=hrel;by_cases aD:dL<xs.length
    ·have cL:(dL:Int)<(xs.length:Int):=r;have i6:dL<cs.length:=by have:=HJ.d;omega
     obtain⟨dM,cJ,bo,bk⟩:=(BT.d _ dL _ hrel.d).cell dL aD;obtain⟨rfl,rfl⟩:b6=some ⟨dM,0,none⟩/\zX=cJ:=by injection bo with Y am bm;exact⟨Y,bm⟩
     have fr:IntKind.i64.wrap ((dL:Int)+1)=(dL:Int)+1:=mC;have ch:=u ae;have aN:=u (mT.d _ dL aD i6 _ hrel.d);have bn:Hid (∀b,cs[dL]=b->b=true->rH cs (dL+1)):=u (fun b bg e a ak cf=>by
      by_cases Y:a=dL
      ·subst Y;exact bg.trans e
      ·exact cq.d a ak r)
     generalize cs[dL]=hb at aN bn;have eS:=u (bn.d hb rfl);generalize xs[dL]=x at *;clear bn cq ae bo hrel;cases hb
     ·clear eS;go_wp2_with (go_at_call 101;refine aN.d.mono ?_;rintro e aA ⟨rfl,_,Eo⟩);go_ret;exact⟨rfl,Eo (by simp)⟩
     ·have bj:=u (eS.d rfl);clear eS;go_wp2_with (go_at_call 101;refine aN.d.mono ?_;rintro e aA ⟨rfl,ir,_⟩);have ae:=ch.d;go_roundg (xs.length-dL);case measure=>omega
      case rel=>exact⟨dL+1,r,by go_num,bj,u (ir (by simp)),r⟩
    ·have bj:=Mr (bs:=cs) (fun a ak _=>cq.d a ak (by have:=HJ.d;omega));have:=Et.d;rw[bj] at this;cases this
def af9(nb aW:Nat)(eD:Option Addr)(hJ oC:Nat)(rJ:Option Addr)(wE:Nat)(V:lh)(bs:List Bool)(b7:V.length=bs.length)(ar:V.length<=3)(w:World)(hs:dp w aW 1=some (.slice eD V.length hJ))(fE:dp w nb 1=some (.slice rJ oC wE))(Rel:Nat->World->Prop)(pT:World->Prop)(aw:Rel 0 w)(c4:∀j w' bW,Rel j w'->Below w'.heap.size w' bW->Rel j bW)(an:∀j w',Rel j w'->w'.ownsRow 0 161 2 (.slice eD V.length hJ) V.length (lj V))(mg:∀j (h:j<V.length) (H:j<bs.length) w',Rel j w'->ey 100 #[M nb,.agg #[.string V[j].1,.string V[j].2]] w' fun e bW=>e=.returned (.bool bs[j])/\(bs[j]=true->Rel (j+1) bW)/\(bs[j]=false->pT bW))(yh:bs.all id=true)(xs:List Value)(cs:List Bool)(sq:xs.length=cs.length)(BG:xs.length<=100000)(rK:Value->Nat->World->Prop)(ub:∀w',Rel V.length w'->ey 99 #[M aW] w' fun e bW=>∃c9,e=.returned c9/\rK c9 0 bW)(ej:∀c9 j w',rK c9 j w'->eK w' c9 xs)(Eu:∀c9 j (h:j<xs.length) (H:j<cs.length) w',rK c9 j w'->ey 101 #[M nb,xs[j]] w' fun e bW=>e=.returned (.bool cs[j])/\(cs[j]=true->rK c9 (j+1) bW)/\(cs[j]=false->pT bW))(fF:cs.all id=true)(te:∀c9 w',rK c9 xs.length w'->∃aE g iG cJ,w'.heap[nb]?=some (.cells #[aE,.slice (some ⟨g,0,none⟩) iG cJ] 151 (0,0))/\oC<=cJ/\iG<=cJ):ey 66 #[M nb,M aW] w fun e w'=>e=.returned (.bool true)/\∃c9 S aE g iG cJ,rK c9 xs.length S/\S.heap[nb]?=some (.cells #[aE,.slice (some ⟨g,0,none⟩) iG cJ] 151 (0,0))/\w'=S.setCell ⟨nb,1,none⟩ (.slice (some ⟨g,0,none⟩) oC cJ):=by
 have ab:¬(3:Int)<(V.length:Int):=r;have fk:=u b7;have e9:=u an;have iz:=u mg;have ry:=u c4;have yg:=u aw;have Et:=u fF;have HJ:=u sq;have Ev:=u ub;have BT:=u ej;have mT:=u Eu;have Mt:=u yh;have nC:=u te;clear b7 an mg c4 aw fF sq ub ej Eu yh te;go_enter func66,ntmps66;go_wp2_with fail;go_loopg [26] (V.length+1) (fun U i wr=>∃j:Nat,j<=V.length/\i=q (j:Int)/\Hid (rH bs j)/\Hid (Rel j wr)/\V.length-j<U);case atStart=>exact⟨0,bu,rfl,u (fun i _ hi=>absurd hi (fp _)),yg,r⟩
 case round=>
  obtain⟨j,aS,rfl,cq,hrel,ae⟩:=hrel;by_cases aD:j<V.length
  ·have cL:(j:Int)<(V.length:Int):=r;have i6:j<bs.length:=by have:=fk.d;omega
   have an:=e9.d j wr hrel.d;rw[HI] at an;have ve:j<(V.map fun s=>((.string s.1:Value),(.string s.2:Value))).length:=by rw[cZ];exact aD
   obtain⟨h1,H⟩:=yd (V.map fun s=>((.string s.1:Value),(.string s.2:Value))) j ve;rw[List.getElem_map] at h1 H;rcases an.2 with⟨bo,aw⟩ | ⟨g,cJ,ay,bo,eI,ed,-⟩
   ·omega
   obtain⟨rfl,rfl⟩:eD=some ⟨g,0,none⟩/\hJ=cJ:=by injection bo with Y am bm;exact⟨Y,bm⟩
   have ef:g<wr.heap.size:=(br ed).1;have rI:¬g=wr.heap.size:=r;have c1:dp wr g (j*2)=some (.string V[j].1):=by have:=an.cells rfl _ _ h1;rwa [Addr.add_lit,ax1] at this
   have c2:dp wr g (j*2+1)=some (.string V[j].2):=by have:=an.cells rfl _ _ H;rwa [Addr.add_lit,ax1] at this
   have fr:IntKind.i64.wrap ((j:Int)+1)=(j:Int)+1:=mC;have ch:=u ae;have aN:Hid (∀aU,Below wr.heap.size wr aU->ey 100 #[M nb,.agg #[.string V[j].1,.string V[j].2]] aU fun e bW=>e=.returned (.bool bs[j])/\(bs[j]=true->Rel (j+1) bW)/\(bs[j]=false->pT bW)):=u (fun aU A=>iz.d j aD i6 aU (ry.d j wr aU hrel.d A));have bn:Hid (∀b,bs[j]=b->b=true->rH bs (j+1)):=u (fun b bg e a ak cf=>by
    by_cases Y:a=j
    ·subst Y;exact bg.trans e
    ·exact cq.d a ak r)
   have BU:bs[j]=true:=(List.all_eq_true.1 Mt.d) _ (ec i6);rw[BU] at aN bn;have eS:=u (bn.d true rfl);generalize V[j].1=ha at *;generalize V[j].2=jJ at *;clear bn cq ae bo hrel h1 H an ed ve;have bj:=u (eS.d rfl);clear eS;go_wp2_with (go_at_call 100;refine(aN.d _ cT).mono ?_;rintro e S ⟨rfl,eN,_⟩);have ae:=ch.d;go_roundg (V.length-j);case measure=>omega
   case rel=>exact⟨j+1,r,by go_num,bj,u (eN (by simp)),r⟩
  ·have eZ:j=V.length:=r;have cK:=u (eZ▸hrel.d);have cL:(V.length:Int)<=(j:Int):=r;clear cq hrel ae iz e9 ry;have Ew:=u (Ev.d wr cK.d);go_wp2_with (go_at_call 99;refine Ew.d.mono ?_;rintro e S ⟨c9,rfl,eN⟩;have Ex:=cG (BT.d c9 0 S eN);obtain⟨b6,zX,rfl⟩:=Ex);have gJ:=u eN;clear eN Ew Ev cK;go_loopg [38] (xs.length+1) (fun U i wr=>∃j:Nat,j<=xs.length/\i=q (j:Int)/\Hid (rH cs j)/\Hid (rK (.slice b6 xs.length zX) j wr)/\xs.length-j<U);case atStart=>exact⟨0,bu,rfl,u (fun i _ hi=>absurd hi (fp _)),gJ,r⟩
   case round=>
    obtain⟨dL,kv,rfl,cq,hrel,ae⟩:=hrel;by_cases aD:dL<xs.length
    ·have cL:(dL:Int)<(xs.length:Int):=r;have i6:dL<cs.length:=by have:=HJ.d;omega
     obtain⟨dM,cJ,bo,bk⟩:=(BT.d _ dL _ hrel.d).cell dL aD;obtain⟨rfl,rfl⟩:b6=some ⟨dM,0,none⟩/\zX=cJ:=by injection bo with Y am bm;exact⟨Y,bm⟩
     have fr:IntKind.i64.wrap ((dL:Int)+1)=(dL:Int)+1:=mC;have ch:=u ae;have aN:=u (mT.d _ dL aD i6 _ hrel.d);have bn:Hid (∀b,cs[dL]=b->b=true->rH cs (dL+1)):=u (fun b bg e a ak cf=>by
      by_cases Y:a=dL
      ·subst Y;exact bg.trans e
      ·exact cq.d a ak r)
     have BU:cs[dL]=true:=(List.all_eq_true.1 Et.d) _ (ec i6);rw[BU] at aN bn;have bj:=u (bn.d true rfl rfl);generalize xs[dL]=x at *;clear bn cq ae bo hrel BU;go_wp2_with (go_at_call 101;refine aN.d.mono ?_;rintro e aA ⟨rfl,ir,_⟩);have ae:=ch.d;go_roundg (xs.length-dL);case measure=>omega
     case rel=>exact⟨dL+1,r,by go_num,bj,u (ir (by simp)),r⟩
    ·have TA:dL=xs.length:=r;have BV:=u (TA▸hrel.d);obtain⟨aE,g,iG,cJ,aI,aZ,a6⟩:=nC.d _ _ BV.d;have d1:=Z aI (i:=1) rfl;have f1:=aQ (i:=1) aI;have lk:=u aI;have cL:(xs.length:Int)<=(dL:Int):=r;have ar3:(oC:Int)<=(cJ:Int):=r;clear cq hrel ae TA mT BT aI;go_wp2_with fail;go_ret;exact⟨rfl,_,_,aE,g,iG,cJ,BV.d,lk.d,rfl⟩
def dK(B:List eb)(w:World):aL->List dC->Nat->Nat->List Value->Prop
 | .nil,_,lo,hi,vs=>lo<=hi/\vs=[]
 | .cons h t,I,lo,hi,vs=>∃m v C,vs=v::C/\dK B w h I lo m [v]/\dK B w t I m hi C
 | .node k src name val parts query,I,lo,hi,vs=>∃(b l1 m h1:Nat) (co:Value) (xs qs:List Value) (p0 p1 p2:Int),vs=[.pointer (some ⟨b,0,none⟩)]/\(lo<=b/\b<hi/\lo<=l1/\h1<=hi/\(b<l1\/h1<=b))/\w.heap[b]?=some (.cells #[q (k:Int),.string src,.string name,q (val.kind:Int),q val.num,.string (a7 val.du),co,jj qs,q p0,q p1,q p2] 247 (0,0))/\w.ownsRow lo 101 1 co xs.length xs/\(k=1->∃p,placeOf I src name=some p/\p0=(p.1:Int)/\p1=(p.2.1:Int)/\p2=(p.2.2:Int))/\dK B w parts I l1 m xs/\dK B w query I m h1 qs
 | .query exprs V wh bF uR,I,lo,hi,vs=>∃(bU:List dC) (b l1 m1 m2 m3 h1:Nat) (ev sv gv:Value) (es ws gs hs:List Value),vs=[.pointer (some ⟨b,0,none⟩)]/\V.length<=3/\hd B I V=some bU/\(lo<=b/\b<hi/\lo<=l1/\h1<=hi/\(b<l1\/h1<=b))/\w.heap[b]?=some (.cells #[ev,sv,jj ws,gv,jj hs] 103 (0,0))/\w.ownsRow lo 101 1 ev es.length es/\w.ownsRow lo 161 2 sv V.length (lj V)/\w.ownsRow lo 101 1 gv gs.length gs/\dK B w exprs bU l1 m1 es/\dK B w wh bU m1 m2 ws/\dK B w bF bU m2 m3 gs/\dK B w uR bU m3 h1 hs
def dK.is:∀{I:List dC} {lo hi:Nat} {vs:List Value},dK B w t I lo hi vs->df w lo hi t vs:=by
 induction t with
 | nil=>rintro I lo hi vs ⟨h,rfl⟩;exact .nil h
 | cons a b cn i2=>rintro I lo hi vs ⟨m,v,C,rfl,h1,H⟩;exact .cons (cn h1) (i2 H)
 | node k s n v p U cn i2=>rintro I lo hi vs ⟨b,l1,m,h1,co,xs,qs,p0,p1,p2,rfl,⟨bq,a2,a3,a4,a5⟩,A,ag,-,H,ab⟩;exact .node bq a2 a3 a4 a5 A ag (cn H) (i2 ab)
 | query e l wh g h cn i2 i3 i4=>rintro I lo hi vs ⟨bU,b,l1,m1,m2,m3,h1,ev,sv,gv,es,ws,gs,hs,rfl,-,-,⟨bq,a2,a3,a4,a5⟩,A,cX,cA,AV,hx,dL,jk,jM⟩;exact .query bq a2 a3 a4 a5 A cX cA AV (cn hx) (i2 dL) (i3 jk) (i4 jM)
def dK.le{B:List eb}{w:World}{t:aL}{I:List dC}{lo hi:Nat}{vs:List Value}(h:dK B w t I lo hi vs):lo<=hi:=h.is.le
def dK.a8:∀{I:List dC} {lo hi:Nat} {vs:List Value},(∀(k:Nat) (cs:Array Value) (m:Nat×Nat),w.heap[k]?=some (.cells cs 247 m)->lo<=k->k<hi->w'.heap[k]?=some (.cells cs 247 m))->(∀(k:Nat) (cs:Array Value) (m:Nat×Nat) (ne:TypeId),(ne=103\/ne=101\/ne=161)->w.heap[k]?=some (.cells cs ne m)->w'.heap[k]?=some (.cells cs ne m))->dK B w t I lo hi vs->dK B w' t I lo hi vs:=by
 induction t with
 | nil=>intro I lo hi vs _ _ h;exact h
 | cons a b cn i2=>rintro I lo hi vs ar ct ⟨m,v,C,rfl,h1,H⟩;have l1:=h1.le;have bT:=H.le;exact⟨m,v,C,rfl,cn (fun k cs m e x y=>ar k cs m e r r) ct h1,i2 (fun k cs m e x y=>ar k cs m e r r) ct H⟩
 | node k s n v p U cn i2=>
  rintro I lo hi vs ar ct ⟨b,l1,m,h1,co,xs,qs,p0,p1,p2,rfl,⟨bq,a2,a3,a4,a5⟩,A,ag,aj,H,ab⟩;have Y:=H.le;have am:=ab.le;refine⟨b,l1,m,h1,co,xs,qs,p0,p1,p2,rfl,⟨bq,a2,a3,a4,a5⟩,ar _ _ _ A bq a2,?_,aj,cn (fun k cs m e x y=>ar k cs m e r r) ct H,i2 (fun k cs m e x y=>ar k cs m e r r) ct ab⟩;refine⟨ag.1,?_⟩;rcases ag.2 with ar | ⟨g,af,ay,rfl,A,en,rest⟩
  ·exact .inl ar
  ·exact .inr ⟨g,af,ay,rfl,A,ct _ _ _ _ (by simp) en,rest⟩
 | query e l wh g h cn i2 i3 i4=>
  rintro I lo hi vs ar ct ⟨bU,b,l1,m1,m2,m3,h1,ev,sv,gv,es,ws,gs,hs,rfl,hle,ak,⟨bq,a2,a3,a4,a5⟩,A,cX,cA,AV,hx,dL,jk,jM⟩;have Y:=hx.le;have am:=dL.le;have bm:=jk.le;have hq:=jM.le;have an:∀{e:TypeId} (au:e=103\/e=101\/e=161) {size n:Nat} {v:Value} {xs:List Value},w.ownsRow lo e size v n xs->w'.ownsRow lo e size v n xs:=by
   intro e au size n v xs ag;refine⟨ag.1,?_⟩;rcases ag.2 with ar | ⟨g,af,ay,rfl,A,en,rest⟩
   ·exact .inl ar
   ·exact .inr ⟨g,af,ay,rfl,A,ct _ _ _ _ au en,rest⟩
  exact⟨bU,b,l1,m1,m2,m3,h1,ev,sv,gv,es,ws,gs,hs,rfl,hle,ak,⟨bq,a2,a3,a4,a5⟩,ct _ _ _ _ (.inl rfl) A,an (.inr (.inl rfl)) cX,an (.inr (.inr rfl)) cA,an (.inr (.inl rfl)) AV,cn (fun k cs m e x y=>ar k cs m e r r) ct hx,i2 (fun k cs m e x y=>ar k cs m e r r) ct dL,i3 (fun k cs m e x y=>ar k cs m e r r) ct jk,i4 (fun k cs m e x y=>ar k cs m e r r) ct jM⟩
def dK.below(h:dK B w t I lo hi vs)(A:eB w w'):dK B w' t I lo hi vs:=h.a8 (fun _ _ _ e _ _=>(A.block _ (br e).1).trans e) (fun _ _ _ _ _ e=>(A.block _ (br e).1).trans e)
def dK.apart{U:Nat}(aj:dK B w t I lo hi vs)(hs:eu U l h w w')(bb:hi<=l\/h<=lo):dK B w' t I lo hi vs:=by
 refine aj.a8 (fun k cs m e x y=>?_) (fun k cs m ne au e=>hs.other e ?_ ?_ ?_)
 ·rcases hs.block k (br e).1 with f | ⟨a,b,_⟩ | ⟨-,ds,n,bp,hu,f1⟩
  ·exact f.trans e
  ·omega
  ·rw[e] at f1;injection f1 with f1;injection f1 with _ f1;subst f1;rcases hu with hu | hu<;>cases hu
 all_goals rcases au with rfl | rfl | rfl<;>decide
structure sK where
 t:aL
 v:Value
 lo:Nat
 hi:Nat
variable{E:List sK}
def elems:aL->List aL
 | .cons h t=>h::elems t
 | _=>[]
def lx:aL->Prop
 | .nil=>True
 | .cons _ t=>lx t
 | _=>False
def sL:List sK->Nat->Nat->Prop
 | [],lo,hi=>lo<=hi
 | e::C,lo,hi=>e.lo=lo/\e.lo<=e.hi/\sL C e.hi hi
def sL.le:∀{E:List sK} {lo hi:Nat},sL E lo hi->lo<=hi
 | [],_,_,h=>h
 | e::C,lo,hi,⟨h1,H,ab⟩=>by have:=sL.le ab;omega
def sL.mem:∀{E:List sK} {lo hi:Nat},sL E lo hi->∀e∈E,lo<=e.lo/\e.lo<=e.hi/\e.hi<=hi
 | [],_,_,_,e,he=>by cases he
 | a::C,lo,hi,⟨h1,H,ab⟩,e,he=>by
  rcases List.mem_cons.1 he with rfl | he
  ·exact⟨r,H,ab.le⟩
  ·obtain⟨x,y,z⟩:=ab.mem e he;exact⟨r,y,z⟩
def HK(e f:sK):Prop:=e.hi<=f.lo\/f.hi<=e.lo
def sL.pair:∀{E:List sK} {lo hi:Nat},sL E lo hi->E.Pairwise HK
 | [],_,_,_=>.nil
 | _::_,_,_,⟨_,_,ab⟩=>.cons (fun e he=>.inl (ab.mem e he).1) ab.pair
def df.TB:∀{lo hi:Nat} {vs:List Value},df w lo hi t vs->lx t->∃E:List sK,E.map (·.v)=vs/\E.map (·.t)=elems t/\sL E lo hi/\∀e∈E,df w e.lo e.hi e.t [e.v]:=by
 induction t with
 | nil=>
  intro lo hi vs h _;cases h with
  | nil h=>exact⟨[],rfl,rfl,h,by simp⟩
 | cons a b cn i2=>
  intro lo hi vs h X;cases h with
  | @cons _ m _ _ _ v vs h1 H=>
   obtain⟨E,Y,am,bm,hq⟩:=i2 H X;refine⟨⟨a,v,lo,m⟩::E,by rw[List.map_cons,Y],by rw[List.map_cons,am];rfl,⟨rfl,h1.le,bm⟩,fun e he=>?_⟩;rcases List.mem_cons.1 he with rfl | he
   ·exact h1
   ·exact hq e he
 | node=>intro _ _ _ _ h;cases h
 | query=>intro _ _ _ _ h;cases h
def dK.TC:∀{E:List sK} {lo hi:Nat},lx t->E.map (·.t)=elems t->sL E lo hi->(∀e∈E,dK B w e.t I e.lo e.hi [e.v])->dK B w t I lo hi (E.map (·.v)):=by
 induction t with
 | nil=>intro E lo hi _ h1 H _;obtain rfl:=List.map_eq_nil_iff.1 h1;exact⟨H,rfl⟩
 | cons a b cn i2=>
  intro E lo hi X h1 H ab;cases E with
  | nil=>cases h1
  | cons e C=>injection h1 with g1 g2;obtain⟨aI,aZ,a6⟩:=H;subst aI;subst g1;exact⟨e.hi,e.v,C.map (·.v),rfl,ab e (ax6 ..),i2 X g2 a6 (fun f av=>ab f (List.mem_cons_of_mem _ av))⟩
 | node=>intro _ _ _ h;cases h
 | query=>intro _ _ _ h;cases h
def qI:∀{tag:Nat},aJ t tag->(tag=3\/tag=5\/tag=6)->lx t:=by
 induction t with
 | nil=>intro _ _ _;trivial
 | cons a b cn i2=>
  intro tag h au;rcases h with⟨_,_,h⟩ | ⟨_,_,h⟩ | ⟨_,_,h⟩
  ·exact i2 h (.inl rfl)
  ·exact i2 h (.inr (.inl rfl))
  ·exact i2 h (.inr (.inr rfl))
 | node k s n v p U=>rintro tag ⟨_,_,h⟩ au;omega
 | query=>rintro tag ⟨h,_⟩ au;omega
def wF(B:List eb)(aE:Value)(nb:Nat)(I:List dC)(lo hi:Nat)(w:World)(t:aL)(vs:List Value)(e:Ending)(w':World):Prop:=e=.returned (.bool (eh B I t))/\eu nb lo hi w w'/\(eh B I t=true->i7 w' nb aE I/\dK B w' t I lo hi vs)
def eu.none(ar:eu nb 0 0 w w'):eu nb l h w w':=⟨ar.os,ar.tape,ar.output,ar.size,fun k hk=>by
 rcases ar.block k hk with e | ⟨a,b,_⟩ | e
 ·exact .inl e
 ·omega
 ·exact .inr (.inr e)⟩
def eu.belows(ar:eB w w'):eu nb l h w w':=eu.of (qH.of ar)
structure rL (B:List eb) (aE:Value) (nb:Nat) (I:List dC) (E:List sK) (lo hi:Nat) (w:World) (j:Nat) (w':World):Prop where
 n0:eu nb lo hi w w'
 zY:i7 w' nb aE I
 has:mu w' aE B
 done:∀i (h:i<E.length),i<j->dK B w' E[i].t I E[i].lo E[i].hi [E[i].v]
def rL.step{bW:World}(h:rL B aE nb I E lo hi w j w')(aj:E.Pairwise HK)(aS:j<E.length)(A:∀e∈E,lo<=e.lo/\e.hi<=hi){e:Ending}(ai:wF B aE nb I E[j].lo E[j].hi w' E[j].t [E[j].v] e bW):e=.returned (.bool (eh B I E[j].t))/\(eh B I E[j].t=true->rL B aE nb I E lo hi w (j+1) bW)/\(eh B I E[j].t=false->eu nb lo hi w bW):=by
 obtain⟨c1,c2,dZ⟩:=ai;obtain⟨cN,bL⟩:=A E[j] (ec aS);have cS:eu nb lo hi w bW:=h.n0.trans (c2.mono cN bL);refine⟨c1,fun au=>⟨cS,(dZ au).1,h.has.n0 c2,fun i hi tQ=>?_⟩,fun _=>cS⟩;by_cases Y:i=j
 ·subst Y;exact(dZ au).2
 ·have aD:i<j:=r;refine(h.done i hi aD).apart c2 ?_;rcases List.pairwise_iff_getElem.1 aj i j hi aS aD with h | h
  ·exact .inl h
  ·exact .inr h
def TD(B:List eb)(I:List dC)(h:lx t):eh B I t=(elems t).all (eh B I):=by
 induction t with
 | nil=>rfl
 | cons a b cn i2=>rw[eh,elems,List.all_cons,i2 h]
 | node=>cases h
 | query=>cases h
def Mu(h:bp∈elems t):cp bp<cp t:=by
 induction t with
 | nil=>cases h
 | cons a b cn i2=>
  rcases List.mem_cons.1 h with rfl | h
  ·simp only[cp];omega
  ·have:=i2 h;simp only[cp];omega
 | node=>cases h
 | query=>cases h
def TE(h:bp∈elems t):dep bp<=dep t:=by
 induction t with
 | nil=>cases h
 | cons a b cn i2=>
  have e:dep (.cons a b)=max (dep a) (dep b):=by rw[dep]
  rcases List.mem_cons.1 h with rfl | h
  ·omega
  ·have:=i2 h;omega
 | node=>cases h
 | query=>cases h
def TF(R:aJ t tag)(h:bp∈elems t):(tag=3/\aJ bp 0)\/(tag=5/\aJ bp 7)\/(tag=6/\aJ bp 1):=by
 induction t with
 | nil=>cases h
 | cons a b cn i2=>
  rcases R with⟨rfl,h1,H⟩ | ⟨rfl,h1,H⟩ | ⟨rfl,h1,H⟩<;>rcases List.mem_cons.1 h with rfl | h
  ·exact .inl ⟨rfl,h1⟩
  ·exact i2 H h
  ·exact .inr (.inl ⟨rfl,h1⟩)
  ·exact i2 H h
  ·exact .inr (.inr ⟨rfl,h1⟩)
  ·exact i2 H h
 | node=>cases h
 | query=>cases h
def TG(h:lx t):(elems t).length=dH t:=by
 induction t with
 | nil=>rfl
 | cons a b cn i2=>simp only[elems,di,dH,i2 h]
 | node=>cases h
 | query=>cases h
def jN(h:aJ t tag)(au:tag=0\/tag=1\/tag=7):ms t:=by
 cases t with
 | nil=>simp only[aJ] at h;omega
 | cons a b=>simp only[aJ] at h;omega
 | node=>trivial
 | query=>simp only[aJ] at h;omega
def df.qJ(h:df w lo hi t vs)(ar:ms t):∃b,vs=[M b]:=by
 cases h with
 | nil=>cases ar
 | cons=>cases ar
 | node=>exact⟨_,rfl⟩
 | query=>cases ar
def TH(B:List eb)(s:e6×e6):∀(l:lh) (I:List dC),hd B I (l++[s])=(hd B I l).bind fun e=>(nZ B s.2 s.1).bind fun aq=>if (oB e s.2).isSome then none else some (e++[aq]):=by
 intro l;induction l with
 | nil=>intro I;simp only[List.nil_append,hd,b2];cases nZ B s.2 s.1<;>rfl
 | cons a C aH=>
  intro I;rw[List.cons_append,hd,hd];cases nZ B a.2 a.1 with
  | none=>rfl
  | some aq=>
   simp only[];split
   ·rfl
   ·rw[aH]
def TI(B:List eb):∀(l:lh) (I bU:List dC),hd B I l=some bU->bU.length=I.length+l.length:=by
 intro l;induction l with
 | nil=>intro I bU h;obtain rfl:=bx h;rfl
 | cons a C aH=>
  intro I bU h;rw[hd] at h;cases hs:nZ B a.2 a.1 with
  | none=>rw[hs] at h;cases h
  | some aq=>
   rw[hs] at h;simp only[] at h;split at h
   ·cases h
   ·have:=aH _ _ h;simp only[cu,di,List.length_nil] at this ⊢;omega
def aga(B:List eb):∀(l:lh) (I bU:List dC),hd B I l=some bU->∃C,bU=I++C:=by
 intro l;induction l with
 | nil=>intro I bU h;obtain rfl:=bx h;exact⟨[],by simp⟩
 | cons a C aH=>
  intro I bU h;rw[hd] at h;cases hs:nZ B a.2 a.1 with
  | none=>rw[hs] at h;cases h
  | some aq=>
   rw[hs] at h;simp only[] at h;split at h
   ·cases h
   ·obtain⟨U,rfl⟩:=aH _ _ h;exact⟨aq::U,by simp⟩
def mv(B:List eb)(I:List dC)(V:lh)(j:Nat):Bool:=(hd B I (V.take (j+1))).isSome
def agb(aS:j<V.length)(h:hd B I (V.take j)=none):hd B I (V.take (j+1))=none:=by rw[jD aS,TH,h];rfl
def TJ:((List.range V.length).map (mv B I V)).all id=(hd B I V).isSome:=by
 cases hs:hd B I V with
 | none=>
  rw[Option.isSome_none,List.all_eq_false];cases X:V.length with
  | zero=>obtain rfl:=ma X;cases hs
  | succ n=>refine⟨mv B I V n,List.mem_map.2 ⟨n,List.mem_range.2 r,rfl⟩,?_⟩;show ¬(mv B I V n=true);rw[mv,List.take_of_length_le r,hs];decide
 | some e=>
  rw[Option.isSome_some,List.all_eq_true];intro b A;obtain⟨j,aS,rfl⟩:=List.mem_map.1 A;have aS:=List.mem_range.1 aS;have key:∀aq k,k+aq=V.length->(hd B I (V.take k)).isSome=true:=by
   intro aq;induction aq with
   | zero=>intro k hk;rw[List.take_of_length_le r,hs];rfl
   | succ aq aH=>
    intro k hk;have h1:=aH (k+1) r;cases H:hd B I (V.take k) with
    | some=>rfl
    | none=>rw[agb r H] at h1;cases h1
  exact key (V.length-(j+1)) (j+1) r
def TK(l:List (Value×Value)):(h4 l).length=l.length*2:=by
 induction l with
 | nil=>rfl
 | cons a C aH=>have e:h4 (a::C)=[a.1,a.2]++h4 C:=rfl;rw[e,cu,aH,di,di,List.length_nil,di];omega
def i7.cut{C:List dC}{g iG cJ:Nat}(h:i7 w nb aE (I++C))(A:w.heap[nb]?=some (.cells #[aE,.slice (some ⟨g,0,none⟩) iG cJ] 151 (0,0))):i7 (w.setCell ⟨nb,1,none⟩ (.slice (some ⟨g,0,none⟩) I.length cJ)) nb aE I:=by
 obtain⟨a,af,fE,an,ai⟩:=h;rw[A] at fE;injection fE with fE;injection fE with fE _;have Y:(#[aE,Value.slice (some ⟨g,0,none⟩) iG cJ]:Array Value)[1]?=#[aE,.slice a (I++C).length af][1]?:=by rw[fE]
 simp only[List.getElem?_toArray,List.getElem?_cons_succ,List.getElem?_cons_zero] at Y;injection Y with Y;injection Y with Y am bm;subst Y am bm;have ar:eu nb 0 0 w (w.setCell ⟨nb,1,none⟩ (.slice (some ⟨g,0,none⟩) I.length cJ)):=⟨rfl,rfl,rfl,by rw[size_set];exact ap,fun k hk=>by
  by_cases e:k=nb
  ·subst e;exact .inr (.inr ⟨ap,_,_,_,.inl rfl,A⟩)
  ·exact .inl (Below.heap_setCell _ _ _ k (by exact e))⟩
 refine⟨some ⟨g,0,none⟩,cJ,?_,?_,fun s hs=>?_⟩
 ·rw[hc A];rfl
 ·obtain⟨X,ag⟩:=an;refine⟨by rw[TK,cZ],.inr ?_⟩;rcases ag with⟨aa,_⟩ | ⟨dM,e7,ay,aa,h1,H,ab,aK,cO,cE⟩
  ·cases aa
  ·injection aa with jZ qK Mv;injection jZ with jZ;injection jZ with jZ;subst jZ Mv;have cy:g≠nb:=by rintro rfl;rw[A] at H;injection H with H;injection H with _ H;cases H
   refine⟨g,cJ,ay,rfl,h1,(Below.heap_setCell _ _ _ g (by exact cy)).trans H,by simp only[cu] at ab;omega,aK,cO,?_⟩;have kD:=congrArg (List.take (I.length*2)) cE;rw[List.take_take,Nat.min_eq_left (by simp only[cu];omega)] at kD;rw[kD,List.map_append];simp only[h4,List.flatMap_append];exact List.take_left' (by show(h4 (I.map rF)).length=_;rw[TK,cZ])
 ·obtain⟨nB,cJ,fU,h1,H,ab,aK⟩:=ai s (List.mem_append_left _ hs);exact⟨nB,cJ,fU,ar.other h1 K K K,H,ar.row K K K ab,aK⟩
def Ey:aL->Prop
 | .query _ _ _ _ _=>True
 | _=>False
def HL(B:List eb)(aE:Value)(nb:Nat)(t:aL):Prop:=∀(tag b lo hi:Nat) (I:List dC) (w:World),aJ t tag->df w lo hi t [M b]->i7 w nb aE I->mu w aE B->I.length+3*dep t<=80000->(ms t->ey 101 #[M nb,M b] w (wF B aE nb I lo hi w t [M b]))/\(Ey t->ey 66 #[M nb,M b] w (wF B aE nb I lo hi w t [M b]))
def agc(B:List eb)(aE:Value)(nb:Nat){v:al}(b lo hi:Nat)(I:List dC)(w:World)(iU:df w lo hi (.node 1 s n v .nil .nil) [M b])(ar:i7 w nb aE I)(X:I.length<=80000):ey 101 #[M nb,M b] w (wF B aE nb I lo hi w (.node 1 s n v .nil .nil) [M b]):=by
 cases iU with
 | @node _ l1 m h1 _ _ _ _ _ _ _ _ co vs qs p0 p1 p2 bq a2 a3 a4 a5 A ag tO ow=>
  cases tO;cases ow;have hk:=Z A (i:=0) rfl;have bi:eh B I (.node 1 s n v .nil .nil)=(placeOf I s n).isSome:=by rw[eh,if_pos rfl]
  refine(af4 nb b w hk (fun C w'=>C=eh B I (.node 1 s n v .nil .nil)/\eu nb lo hi w w'/\(C=true->i7 w' nb aE I/\dK B w' (.node 1 s n v .nil .nil) I lo hi [M b])) ?_).mono ?_
  ·cases cv:oB I s with
   | none=>refine(afH nb b aE _ _ _ _ _ _ _ _ _ s n I w ar r A cv).mono ?_;rintro e w' ⟨rfl,bg⟩;refine⟨false,rfl,?_,eu.belows bg,(fun h=>by cases h)⟩;rw[bi,placeOf,cv];rfl
   | some i=>
    have Mw:=Mk cv;refine(afL nb b i aE _ _ _ _ _ _ _ _ _ s n I w ar r A cv Mw _ rfl).mono ?_;intro e w' kJ;cases mK:HE I[i].bl n with
    | none=>rw[mK] at kJ;obtain⟨rfl,bg⟩:=kJ;refine⟨false,rfl,?_,eu.belows bg,(fun h=>by cases h)⟩;rw[bi,placeOf,cv,b2,fC Mw,b2,mK];rfl
    | some j=>
     rw[mK] at kJ;obtain⟨rfl,c4,fT⟩:=kJ;have mn:placeOf I s n=some (i,j,(I[i].bl.getD j (⟨#[]⟩,0)).2):=by rw[placeOf,cv,b2,fC Mw,b2,mK];rfl
     have gA:qH lo hi w w':=qH.one c4 A (by rfl) fT bq a2;refine⟨true,rfl,by rw[bi,mn];rfl,eu.of gA,fun _=>⟨ar.afR gA,?_⟩⟩;refine⟨b,l1,m,h1,co,[],[],_,_,_,rfl,⟨bq,a2,a3,a4,a5⟩,fT,gA.row K ag,fun _=>⟨_,mn,rfl,rfl,rfl⟩,⟨by assumption,rfl⟩,⟨by assumption,rfl⟩⟩
  ·rintro e w' ⟨C,rfl,rfl,H,ab⟩;exact⟨rfl,H,ab⟩
def agd(age:∀e∈E,HL B aE nb e.t)(ko:∀e∈E,∃tag,aJ e.t tag/\(tag=0\/tag=1\/tag=7))(Bf:∀e∈E,df w e.lo e.hi e.t [e.v])(aj:E.Pairwise HK)(A:∀e∈E,lo<=e.lo/\e.hi<=hi)(bb:∀e∈E,I.length+3*dep e.t<=80000)(aS:j<E.length)(h:rL B aE nb I E lo hi w j w'):ey 101 #[M nb,E[j].v] w' fun e bW=>e=.returned (.bool (eh B I E[j].t))/\(eh B I E[j].t=true->rL B aE nb I E lo hi w (j+1) bW)/\(eh B I E[j].t=false->eu nb lo hi w bW):=by
 have hm:=ec aS;obtain⟨tag,R,au⟩:=ko _ hm;have n1:=jN R au;have fM:=(Bf _ hm).n0 h.n0;obtain⟨b,bg⟩:=fM.qJ n1;have hv:E[j].v=M b:=by injection bg
 have ai:=((age _ hm) tag b _ _ I w' R (by rw[hv] at fM;exact fM) h.zY h.has (bb _ hm)).1 n1;rw[hv];refine ai.mono fun e bW kJ=>h.step aj aS A ?_;rw[hv];exact kJ
def TL(B:List eb)(aE:Value)(nb:Nat){v:al}(bZ:k≠1)(HH:k≠15)(R:aJ p tag)(au:tag=3\/tag=6)(b7:dH p<=2)(aH:∀bp∈elems p,HL B aE nb bp)(b lo hi:Nat)(I:List dC)(w:World)(iU:df w lo hi (.node k s n v p .nil) [M b])(ar:i7 w nb aE I)(Ez:mu w aE B)(X:I.length+3*dep p<=80000):ey 101 #[M nb,M b] w (wF B aE nb I lo hi w (.node k s n v p .nil) [M b]):=by
 cases iU with
 | @node _ l1 m h1 _ _ _ _ _ _ _ _ co vs qs p0 p1 p2 bq a2 a3 a4 a5 A ag tO ow=>
  cases ow;rename_i ar4;have fa:lx p:=qI R r;obtain⟨E,Y,am,bm,hq⟩:=tO.TB fa;have Ej:E.length=dH p:=by rw[<-TG fa,<-am,cZ]
  have nT:∀e∈E,e.t∈elems p:=fun e he=>by rw[<-am];exact List.mem_map.2 ⟨e,he,rfl⟩
  have k7:∀e∈E,l1<=e.lo/\e.hi<=m:=fun e he=>⟨(bm.mem e he).1,(bm.mem e he).2.2⟩;have bi:eh B I (.node k s n v p .nil)=(E.map fun e=>eh B I e.t).all id:=by rw[eh,if_neg bZ,if_neg HH,TD B I fa,<-am,List.all_map,List.all_map];rfl
  have uc:vs.length=E.length:=by rw[<-Y,cZ]
  refine(afT nb b k bZ HH co vs (E.map fun e=>eh B I e.t) (by rw[uc,cZ]) r w (Z A (i:=0) rfl) (Z A (i:=6) rfl) (rL B aE nb I E l1 m w) (eu nb l1 m w) ⟨eu.belows (Below.refl _ _),ar,Ez,fun i h hi=>absurd hi (fp _)⟩ (fun j w' h=>ei bu (h.n0.row K K K ag)) (fun j h H w' hrel=>?_)).mono ?_
  ·have aS:j<E.length:=r;have aa:vs[j]=E[j].v:=by simp only[<-Y,List.getElem_map]
   rw[aa,List.getElem_map];exact agd (fun e he=>aH _ (nT e he)) (fun e he=>by
    rcases TF R (nT e he) with⟨_,h⟩ | ⟨_,h⟩ | ⟨_,h⟩
    ·exact⟨0,h,.inl rfl⟩
    ·exact⟨7,h,.inr (.inr rfl)⟩
    ·exact⟨1,h,.inr (.inl rfl)⟩) hq bm.pair k7 (fun e he=>by have:=TE (nT e he);omega) aS hrel
  ·rintro e w' ⟨rfl,H,ab⟩;rw[<-bi] at H ab ⊢;have wG:=bm.le;cases cf:eh B I (.node k s n v p .nil) with
   | false=>exact⟨by rw[cf],(ab cf).mono a3 r,fun h=>by rw[cf] at h;cases h⟩
   | true=>
    have b1:=H cf;refine⟨by rw[cf],b1.n0.mono a3 r,fun _=>⟨b1.zY,?_⟩⟩;refine⟨b,l1,m,h1,co,vs,[],p0,p1,p2,rfl,⟨bq,a2,a3,a4,a5⟩,?_,b1.n0.row K K K ag,fun h=>absurd h bZ,?_,⟨by assumption,rfl⟩⟩
    ·rcases b1.n0.block b (br A).1 with f | ⟨x,y,_⟩ | ⟨-,ds,U,bp,hu,f1⟩
     ·exact f.trans A
     ·omega
     ·rw[A] at f1;injection f1 with f1;injection f1 with _ f1;subst f1;rcases hu with hu | hu<;>cases hu
    ·rw[<-Y];refine dK.TC fa am bm (fun e he=>?_);obtain⟨i,hi,rfl⟩:=List.mem_iff_getElem.1 he;exact b1.done i hi r
structure sM (B:List eb) (aE:Value) (nb:Nat) (I:List dC) (V:lh) (lo hi:Nat) (w:World) (j:Nat) (w':World):Prop where
 n0:eu nb lo hi w w'
 has:mu w' aE B
 zY:∃e,hd B I (V.take j)=some e/\i7 w' nb aE e
def agf(X:I.length<=80000)(ar:V.length<=3)(aS:j<V.length)(h:sM B aE nb I V lo hi w j w'):ey 100 #[M nb,.agg #[.string V[j].1,.string V[j].2]] w' fun e bW=>e=.returned (.bool (mv B I V j))/\(mv B I V j=true->sM B aE nb I V lo hi w (j+1) bW)/\(mv B I V j=false->eu nb lo hi w bW):=by
 obtain⟨h1,H,c7,ab,aK⟩:=h;have b7:=TI _ _ _ _ ab;have BH:(V.take j).length<=3:=by rw[List.length_take];omega
 have hs:hd B I (V.take (j+1))=(nZ B V[j].2 V[j].1).bind fun aq=>if (oB c7 V[j].2).isSome then none else some (c7++[aq]):=by rw[jD aS,TH,ab];rfl
 cases av:nK (B.map (·.name)) V[j].1 with
 | none=>
  have bw:mv B I V j=false:=by rw[mv,hs,nZ,av];rfl
  rw[bw];refine(afU nb aE B c7 _ _ w' H aK av).mono ?_;rintro e bW ⟨rfl,A⟩;exact⟨rfl,(fun h=>by cases h),fun _=>h1.trans (eu.belows A)⟩
 | some i=>
  cases hw:oB c7 V[j].2 with
  | some U=>
   have bw:mv B I V j=false:=by rw[mv,hs,hw];cases nZ B V[j].2 V[j].1<;>rfl
   rw[bw];refine(afV nb i U aE B c7 _ _ w' H aK r av hw).mono ?_;rintro e bW ⟨rfl,A⟩;exact⟨rfl,(fun h=>by cases h),fun _=>h1.trans (eu.belows A)⟩
  | none=>
   have hi:i<B.length:=by have:=Mk av;simpa using this
   have bb:B[i]?=some B[i]:=fC hi;have agh:nZ B V[j].2 V[j].1=some ⟨V[j].2,B[i].iy,B[i].bl⟩:=by rw[nZ,av,b2,bb];rfl
   have cv:hd B I (V.take (j+1))=some (c7++[⟨V[j].2,B[i].iy,B[i].bl⟩]):=by rw[hs,agh,hw];rfl
   have bw:mv B I V j=true:=by rw[mv,cv];rfl
   rw[bw];refine(af1 nb i aE B c7 _ _ w' H aK r B[i] av bb hw).mono ?_;rintro e bW ⟨rfl,cS,hm⟩;exact⟨rfl,fun _=>⟨h1.trans hm.none,H.n0 hm,_,cv,cS⟩,(fun h=>by cases h)⟩
def EA(Bf:∀e∈E,df w e.lo e.hi e.t [e.v])(ko:∀e∈E,∃tag,aJ e.t tag/\(tag=0\/tag=1\/tag=7)):∀y∈E.map (·.v),y.oneCell'=true:=by intro y hy;obtain⟨e,he,rfl⟩:=List.mem_map.1 hy;obtain⟨tag,R,au⟩:=ko e he;obtain⟨b,A⟩:=(Bf e he).qJ (jN R au);injection A with A;rw[A];rfl
def EB(R:aJ t 4)(h:df w lo hi t vs):∃E:List sK,E.map (·.v)=vs/\sL E lo hi/\(∀e∈E,df w e.lo e.hi e.t [e.v])/\(∀e∈E,aJ e.t 1/\cp e.t<=cp t/\dep e.t<=dep t)/\(∀(B:List eb) (I:List dC),eh B I t=(E.map fun e=>eh B I e.t).all id)/\(∀(B:List eb) (w':World) (I:List dC),(∀e∈E,dK B w' e.t I e.lo e.hi [e.v])->dK B w' t I lo hi vs)/\(jj vs=.pointer none/\vs=[]\/∃k,jj vs=.pointer (some k)/\vs=[.pointer (some k)]):=by
 cases t with
 | nil=>
  cases h with
  | nil X=>exact⟨[],rfl,X,by simp,by simp,fun _ _=>rfl,fun _ _ _ _=>⟨X,rfl⟩,.inl ⟨rfl,rfl⟩⟩
 | cons a b=>simp[aJ] at R
 | query=>simp[aJ] at R
 | node k s n v p U=>
  have dv:aJ (.node k s n v p U) 1:=by
   obtain⟨h1,H,ab⟩:=R;refine⟨h1,H,?_⟩;rcases ab with⟨ab | ab | ab,aK,cO⟩ | ab | ab
   ·omega
   ·omega
   ·exact .inl ⟨.inr (.inr ⟨.inl rfl,ab.2⟩),aK,cO⟩
   ·exact .inr (.inl ⟨.inl rfl,ab.2⟩)
   ·exact .inr (.inr ⟨.inl rfl,ab.2⟩)
  obtain⟨b,rfl⟩:=h.qJ trivial;refine⟨[⟨_,M b,lo,hi⟩],rfl,⟨rfl,h.le,ap⟩,?_,?_,fun _ _=>by simp,fun _ _ _ cf=>cf _ (ax6 ..),.inr ⟨_,rfl,rfl⟩⟩
  ·intro e he;rcases List.mem_cons.1 he with rfl | he
   ·exact h
   ·cases he
  ·intro e he;rcases List.mem_cons.1 he with rfl | he
   ·exact⟨dv,ap,ap⟩
   ·cases he
def vf(R:aJ t tag)(au:tag=3\/tag=5\/tag=6)(h:df w lo hi t vs):∃E:List sK,E.map (·.v)=vs/\sL E lo hi/\(∀e∈E,df w e.lo e.hi e.t [e.v])/\(∀e∈E,(∃tag,aJ e.t tag/\(tag=0\/tag=1\/tag=7))/\cp e.t<=cp t/\dep e.t<=dep t)/\(∀(B:List eb) (I:List dC),eh B I t=(E.map fun e=>eh B I e.t).all id)/\(∀(B:List eb) (w':World) (I:List dC),(∀e∈E,dK B w' e.t I e.lo e.hi [e.v])->dK B w' t I lo hi vs)/\vs.length=dH t:=by
 have fa:=qI R au;obtain⟨E,Y,am,bm,hq⟩:=h.TB fa;have nT:∀e∈E,e.t∈elems t:=fun e he=>by rw[<-am];exact List.mem_map.2 ⟨e,he,rfl⟩
 refine⟨E,Y,bm,hq,fun e he=>⟨?_,Nat.le_of_lt (Mu (nT e he)),TE (nT e he)⟩,fun B I=>?_,fun B w' I cf=>?_,?_⟩
 ·rcases TF R (nT e he) with⟨_,h⟩ | ⟨_,h⟩ | ⟨_,h⟩
  ·exact⟨0,h,.inl rfl⟩
  ·exact⟨7,h,.inr (.inr rfl)⟩
  ·exact⟨1,h,.inr (.inl rfl)⟩
 ·rw[TD B I fa,<-am,List.all_map,List.all_map];rfl
 ·rw[<-Y];exact dK.TC fa am bm cf
 ·rw[<-Y,<-TG fa,<-am,cZ,cZ]
def agi(B:List eb)(aE:Value)(nb:Nat){e:aL}{wh g h:aL}(R:aJ (.query e V wh g h) 2)(aH:∀bp,cp bp<cp (.query e V wh g h)->HL B aE nb bp)(b lo hi:Nat)(I:List dC)(w:World)(iU:df w lo hi (.query e V wh g h) [M b])(ar:i7 w nb aE I)(Ez:mu w aE B)(X:I.length+3*dep (.query e V wh g h)<=80000):ey 66 #[M nb,M b] w (wF B aE nb I lo hi w (.query e V wh g h) [M b]):=by
 obtain⟨-,ge,TM,TN,TO,mU,il,TP,jO⟩:=R;have ar5:dep (.query e V wh g h)=1+max (dep e) (max (dep g) (max (dep wh) (dep h))):=by rw[dep]
 have ff:cp (.query e V wh g h)=cp e+cp wh+cp g+cp h+1:=by rw[cp]
 cases iU with
 | @query _ l1 m1 m2 m3 h1 _ _ _ _ _ _ _ ev sv gv es ws gs hs bq a2 a3 a4 a5 A cX cA AV cn i2 i3 i4=>
  obtain⟨eD,hJ,rfl⟩:∃eD hJ,sv=.slice eD V.length hJ:=by
   rcases cA.2 with⟨rfl,aw⟩ | ⟨U,af,ay,rfl,_⟩
   ·exact⟨_,_,by rw[aw]⟩
   ·exact⟨_,_,rfl⟩
  have dV:=Z A (i:=1) rfl;have TQ:=ar;obtain⟨rJ,wE,fE,-,-⟩:=TQ;have dA:=Z fE (i:=1) rfl;by_cases ab:3<V.length
  ·have bi:eh B I (.query e V wh g h)=false:=by rw[eh,ax2 r,Bool.false_and]
   refine(af6 nb b _ eD hJ w dV ab).mono ?_;rintro x w' ⟨rfl,rfl⟩;exact⟨by rw[bi],eu.belows (Below.refl _ _),fun cf=>by rw[bi] at cf;cases cf⟩
  have ab:V.length<=3:=r;have bc:((List.range V.length).map (mv B I V)).length=V.length:=by rw[cZ,List.length_range]
  have BW:sM B aE nb I V l1 h1 w 0 w:=⟨eu.belows (Below.refl _ _),Ez,I,by rw[List.take_zero];rfl,ar⟩;have Mx:∀j w' bW,sM B aE nb I V l1 h1 w j w'->eB w' bW->sM B aE nb I V l1 h1 w j bW:=fun j w' bW ag A=>by obtain⟨q1,bN,c7,fR,iK⟩:=ag;exact⟨q1.trans (eu.belows A),bN.heap A,c7,fR,iK.later A⟩
  have My:∀j w',sM B aE nb I V l1 h1 w j w'->w'.ownsRow 0 161 2 (.slice eD V.length hJ) V.length (lj V):=fun j w' ag=>ei bu (ag.n0.row K K K cA);have Mz:∀j (h:j<V.length) (H:j<((List.range V.length).map (mv B I V)).length) w',sM B aE nb I V l1 h1 w j w'->ey 100 #[M nb,.agg #[.string V[j].1,.string V[j].2]] w' fun e bW=>e=.returned (.bool ((List.range V.length).map (mv B I V))[j])/\(((List.range V.length).map (mv B I V))[j]=true->sM B aE nb I V l1 h1 w (j+1) bW)/\(((List.range V.length).map (mv B I V))[j]=false->eu nb l1 h1 w bW):=fun j aS H w' ag=>by
   have aa:((List.range V.length).map (mv B I V))[j]=mv B I V j:=by rw[List.getElem_map,List.getElem_range]
   rw[aa];exact agf r ab aS ag
  cases cr:hd B I V with
  | none=>
   have bi:eh B I (.query e V wh g h)=false:=by rw[eh,cr,Bool.and_false]
   refine(af7 nb b eD hJ I.length rJ wE V _ bc.symm ab w dV dA (sM B aE nb I V l1 h1 w) (eu nb l1 h1 w) BW Mx My Mz (by rw[TJ,cr];rfl)).mono ?_;rintro x w' ⟨rfl,hm⟩;exact⟨by rw[bi],hm.mono a3 a4,fun cf=>by rw[bi] at cf;cases cf⟩
  | some bU=>
   have b7:=TI _ _ _ _ cr;obtain⟨jP,BX,yi,BY,zZ,MA,MB,TR⟩:=vf ge (.inl rfl) cn;obtain⟨j8,TS,BZ,TT,MC,TU,TV,EC⟩:=EB mU i2;obtain⟨j9,yj,rM,HM,ED,TW,TX,EE⟩:=vf il (.inr (.inl rfl)) i3;obtain⟨kb,nr,re,z1,rN,z6,TY,z7⟩:=EB jO i4;have SB:=yi.le;have ar6:=BZ.le;have ar7:=rM.le;have ar8:=re.le;have cq:∀x∈jP++j9++j8++kb,x∈jP\/x∈j9\/x∈j8\/x∈kb:=fun x aa=>by simpa [List.mem_append,or_assoc] using aa
   have Bf:∀x∈jP++j9++j8++kb,df w x.lo x.hi x.t [x.v]:=fun x aa=>by
    rcases cq x aa with aa | aa | aa | aa
    ·exact BY x aa
    ·exact HM x aa
    ·exact TT x aa
    ·exact z1 x aa
   have ko:∀x∈jP++j9++j8++kb,∃tag,aJ x.t tag/\(tag=0\/tag=1\/tag=7):=fun x aa=>by
    rcases cq x aa with aa | aa | aa | aa
    ·exact(zZ x aa).1
    ·exact(ED x aa).1
    ·exact⟨1,(MC x aa).1,.inr (.inl rfl)⟩
    ·exact⟨1,(rN x aa).1,.inr (.inl rfl)⟩
   have TZ:∀x∈jP++j9++j8++kb,cp x.t<cp (.query e V wh g h)/\bU.length+3*dep x.t<=80000:=fun x aa=>by
    rcases cq x aa with aa | aa | aa | aa
    ·have:=(zZ x aa).2;omega
    ·have:=(ED x aa).2;omega
    ·have:=(MC x aa).2;omega
    ·have:=(rN x aa).2;omega
   have k7:∀x∈jP++j9++j8++kb,l1<=x.lo/\x.hi<=h1:=fun x aa=>by
    rcases cq x aa with aa | aa | aa | aa
    ·have:=yi.mem x aa;omega
    ·have:=rM.mem x aa;omega
    ·have:=BZ.mem x aa;omega
    ·have:=re.mem x aa;omega
   have agj:(jP++j9++j8++kb).Pairwise HK:=by
    rw[List.pairwise_append,List.pairwise_append,List.pairwise_append];refine⟨⟨⟨yi.pair,rM.pair,fun x aa y hy=>?_⟩,BZ.pair,fun x aa y hy=>?_⟩,re.pair,fun x aa y hy=>?_⟩
    ·have p1:=yi.mem x aa;have p2:=rM.mem y hy;exact .inl r
    ·have p2:=BZ.mem y hy;rcases ax5 aa with aa | aa
     ·have p1:=yi.mem x aa;exact .inl r
     ·have p1:=rM.mem x aa;exact .inr r
    ·have p2:=re.mem y hy;rcases ax5 aa with aa | aa
     ·rcases ax5 aa with aa | aa
      ·have p1:=yi.mem x aa;exact .inl r
      ·have p1:=rM.mem x aa;exact .inl r
     ·have p1:=BZ.mem x aa;exact .inl r
   have B0:(jP++j9++j8++kb).map (·.v)=es++gs++ws++hs:=by rw[List.map_append,List.map_append,List.map_append,BX,yj,TS,nr]
   have bi:eh B I (.query e V wh g h)=((jP++j9++j8++kb).map fun x=>eh B bU x.t).all id:=by rw[eh,ax3 ab,Bool.true_and,cr,List.map_append,List.map_append,List.map_append,List.all_append,List.all_append,List.all_append,<-MA,<-TW,<-TU,<-z6]
   have agk:ws.length<=1:=by rcases EC with⟨_,rfl⟩ | ⟨_,_,rfl⟩<;>simp
   have agl:hs.length<=1:=by rcases z7 with⟨_,rfl⟩ | ⟨_,_,rfl⟩<;>simp
   have mI:(es++gs++ws++hs).length<=100000:=by simp only[cu];omega
   have Ej:(es++gs++ws++hs).length=((jP++j9++j8++kb).map fun x=>eh B bU x.t).length:=by rw[<-B0,cZ,cZ]
   have ar9:(es++gs++ws++hs).length=(jP++j9++j8++kb).length:=by rw[<-B0,cZ]
   have EF:∀y∈es,y.oneCell'=true:=by rw[<-BX];exact EA BY (fun x aa=>(zZ x aa).1)
   have MD:∀y∈gs,y.oneCell'=true:=by rw[<-yj];exact EA HM (fun x aa=>(ED x aa).1)
   have ub:∀w',sM B aE nb I V l1 h1 w V.length w'->ey 99 #[M b] w' fun x bW=>∃c9,x=.returned c9/\(rL B aE nb bU (jP++j9++j8++kb) l1 h1 w 0 bW/\eK bW c9 (es++gs++ws++hs)):=fun w' ag=>by obtain⟨q1,bN,c7,fR,iK⟩:=ag;rw[List.take_of_length_le ap,cr] at fR;obtain rfl:=bx fR;refine(Lp b ev _ gv _ _ es gs ws hs w' (q1.other A K K K) (ei bu (q1.row K K K cX)) (ei bu (q1.row K K K AV)) EF MD r r EC z7).mono ?_;rintro x bW ⟨c9,rfl,an,jQ⟩;exact⟨c9,rfl,⟨q1.trans (eu.belows jQ),iK.later jQ,bN.heap jQ,fun i _ hi=>absurd hi (fp _)⟩,an⟩
   have wg:∀c9 j (h:j<(es++gs++ws++hs).length) (H:j<((jP++j9++j8++kb).map fun x=>eh B bU x.t).length) w',(rL B aE nb bU (jP++j9++j8++kb) l1 h1 w j w'/\eK w' c9 (es++gs++ws++hs))->ey 101 #[M nb,(es++gs++ws++hs)[j]] w' fun x bW=>x=.returned (.bool ((jP++j9++j8++kb).map fun x=>eh B bU x.t)[j])/\(((jP++j9++j8++kb).map fun x=>eh B bU x.t)[j]=true->rL B aE nb bU (jP++j9++j8++kb) l1 h1 w (j+1) bW/\eK bW c9 (es++gs++ws++hs))/\(((jP++j9++j8++kb).map fun x=>eh B bU x.t)[j]=false->eu nb l1 h1 w bW):=fun c9 j aS H w' ag=>by
    have T0:j<(jP++j9++j8++kb).length:=r;have aa:(es++gs++ws++hs)[j]=(jP++j9++j8++kb)[j].v:=by simp only[<-B0,List.getElem_map]
    rw[aa,List.getElem_map];have hm:=ec T0;obtain⟨tag,mw,vg⟩:=ko _ hm;have n1:=jN mw vg;have fM:=(Bf _ hm).n0 ag.1.n0;obtain⟨kH,bg⟩:=fM.qJ n1;have hv:(jP++j9++j8++kb)[j].v=M kH:=by injection bg
    have ai:=((aH _ (TZ _ hm).1) tag kH _ _ bU w' mw (by rw[hv] at fM;exact fM) ag.1.zY ag.1.has (by have:=(TZ _ hm).2;omega)).1 n1;have agm:=hv;rw[hv];refine ai.mono fun x bW kJ=>?_;have ME:eK bW c9 (es++gs++ws++hs):=kJ.2.1.row K K K ag.2;obtain⟨aI,aZ,a6⟩:=ag.1.step agj T0 k7 (by rw[agm];exact kJ);exact⟨aI,fun cf=>⟨aZ cf,ME⟩,a6⟩
   have ej:∀c9 j w',(rL B aE nb bU (jP++j9++j8++kb) l1 h1 w j w'/\eK w' c9 (es++gs++ws++hs))->eK w' c9 (es++gs++ws++hs):=fun _ _ _ ag=>ag.2;have yh:((List.range V.length).map (mv B I V)).all id=true:=by rw[TJ,cr];rfl
   cases cf:eh B I (.query e V wh g h) with
   | false=>refine(af8 nb b eD hJ I.length rJ wE V _ bc.symm ab w dV dA (sM B aE nb I V l1 h1 w) (eu nb l1 h1 w) BW Mx My Mz yh (es++gs++ws++hs) _ Ej mI (fun c9 j w'=>rL B aE nb bU (jP++j9++j8++kb) l1 h1 w j w'/\eK w' c9 (es++gs++ws++hs)) ub ej wg (by rw[<-bi,cf])).mono ?_;rintro x w' ⟨rfl,hm⟩;exact⟨by rw[cf],hm.mono a3 a4,fun lq=>by rw[cf] at lq;cases lq⟩
   | true=>
    have te:∀c9 w',(rL B aE nb bU (jP++j9++j8++kb) l1 h1 w (es++gs++ws++hs).length w'/\eK w' c9 (es++gs++ws++hs))->∃aE g iG cJ,w'.heap[nb]?=some (.cells #[aE,.slice (some ⟨g,0,none⟩) iG cJ] 151 (0,0))/\I.length<=cJ/\iG<=cJ:=fun c9 w' ag=>by
     obtain⟨a,af,HN,ME,-⟩:=ag.1.zY;rcases ME.2 with⟨aa,aw⟩ | ⟨dM,e7,ay,aa,-,-,ai,-⟩
     ·omega
     ·injection aa with jZ qK Mv;subst jZ Mv;exact⟨aE,dM,bU.length,af,HN,r,ai⟩
    refine(af9 nb b eD hJ I.length rJ wE V _ bc.symm ab w dV dA (sM B aE nb I V l1 h1 w) (eu nb l1 h1 w) BW Mx My Mz yh (es++gs++ws++hs) _ Ej mI (fun c9 j w'=>rL B aE nb bU (jP++j9++j8++kb) l1 h1 w j w'/\eK w' c9 (es++gs++ws++hs)) ub ej wg (by rw[<-bi,cf]) te).mono ?_;rintro x w' ⟨rfl,c9,S,T1,g2,b9,EG,⟨b1,-⟩,MF,rfl⟩;have MG:T1=aE:=by
     obtain⟨a,af,HN,-,-⟩:=b1.zY;rw[MF] at HN;injection HN with ae;injection ae with ae;have kX:(#[T1,Value.slice (some ⟨g2,0,none⟩) b9 EG]:Array Value)[0]?=#[aE,.slice a bU.length af][0]?:=by rw[ae]
     simpa using kX
    subst MG;obtain⟨HO,agn⟩:∃HO,bU=I++HO:=aga _ _ _ _ cr;have T2:=b1.zY;rw[agn] at T2;have hcut:=i7.cut T2 MF;have o0:∀l cC,eu nb l cC S (S.setCell ⟨nb,1,none⟩ (.slice (some ⟨g2,0,none⟩) I.length EG)):=fun l cC=>⟨rfl,rfl,rfl,by rw[size_set];exact ap,fun k hk=>by
     by_cases e:k=nb
     ·subst e;exact .inr (.inr ⟨ap,_,_,_,.inl rfl,MF⟩)
     ·exact .inl (Below.heap_setCell _ _ _ k (by exact e))⟩
    have EH:eu nb l1 h1 w (S.setCell ⟨nb,1,none⟩ (.slice (some ⟨g2,0,none⟩) I.length EG)):=b1.n0.trans (o0 _ _);have HP:∀x∈jP++j9++j8++kb,dK B (S.setCell ⟨nb,1,none⟩ (.slice (some ⟨g2,0,none⟩) I.length EG)) x.t bU x.lo x.hi [x.v]:=fun x aa=>by obtain⟨i,hi,rfl⟩:=List.mem_iff_getElem.1 aa;exact(b1.done i hi r).apart (o0 0 0) (.inr bu)
    refine⟨by rw[cf],EH.mono a3 a4,fun _=>⟨hcut,?_⟩⟩;refine⟨bU,b,l1,m1,m2,m3,h1,ev,_,gv,es,ws,gs,hs,rfl,ab,cr,⟨bq,a2,a3,a4,a5⟩,EH.other A K K K,EH.row K K K cX,EH.row K K K cA,EH.row K K K AV,?_,?_,?_,?_⟩
    ·exact MB _ _ _ (fun x aa=>HP x (by simp[aa]))
    ·exact TV _ _ _ (fun x aa=>HP x (by simp[aa]))
    ·exact TX _ _ _ (fun x aa=>HP x (by simp[aa]))
    ·exact TY _ _ _ (fun x aa=>HP x (by simp[aa]))
def MH(k:Nat):arity k<=2:=by
 unfold arity;split
 ·omega
 ·split<;>omega
def T3(h:lx t)(aw:dH t=0):t=.nil:=by
 cases t with
 | nil=>rfl
 | cons a b=>simp[dH] at aw
 | node=>cases h
 | query=>cases h
def ago(B:List eb)(aE:Value)(nb:Nat):∀(n:Nat) (t:aL),cp t<=n->∀(tag b lo hi:Nat) (I:List dC) (w:World),aJ t tag->df w lo hi t [M b]->i7 w nb aE I->mu w aE B->I.length+3*dep t<=80000->(ms t->ey 101 #[M nb,M b] w (wF B aE nb I lo hi w t [M b]))/\(Ey t->ey 66 #[M nb,M b] w (wF B aE nb I lo hi w t [M b])):=by
 intro n;induction n with
 | zero=>
  intro t hs tag b lo hi I w R iU;cases t with
  | nil=>cases iU
  | cons a C=>simp[cp] at hs
  | node=>simp[cp] at hs
  | query=>simp[cp] at hs
 | succ n aH=>
  intro t hs tag b lo hi I w R iU ar au bb;have HQ:∀bp,cp bp<=n->HL B aE nb bp:=fun bp hu tag b lo hi I w h1 H ab aK cO=>aH bp hu tag b lo hi I w h1 H ab aK cO;cases t with
  | nil=>cases iU
  | cons a C=>exact⟨(fun h=>by cases h),(fun h=>by cases h)⟩
  | query e V wh g h=>refine⟨(fun h=>by cases h),fun _=>?_⟩;obtain rfl:tag=2:=R.1;exact agi B aE nb R (fun bp hu=>HQ bp r) b lo hi I w iU ar au bb
  | node k s dQ v p U=>
   refine⟨fun _=>?_,(fun h=>by cases h)⟩;obtain⟨hv,X,mw⟩:=R;have ff:cp (.node k s dQ v p U)=cp p+cp U+1:=rfl;by_cases aI:k=1
   ·subst aI;rcases mw with⟨-,ix,rfl⟩ | ⟨-,h,-⟩ | ⟨-,h,-⟩
    ·obtain rfl:p=.nil:=T3 (qI ix (.inl rfl)) X;exact agc B aE nb b lo hi I w iU ar r
    ·omega
    ·omega
   by_cases yf:k=15
   ·subst yf;rcases mw with⟨h,-⟩ | ⟨-,-,h,-⟩ | ⟨-,-,rfl,qL⟩
    ·omega
    ·omega
    ·cases iU with
     | @node _ l1 m h1 _ _ _ _ _ _ _ _ co vs qs p0 p1 p2 bq a2 a3 a4 a5 A ag tO ow=>
      cases tO;rename_i ve;cases U with
      | nil=>simp[aJ] at qL
      | cons=>simp[aJ] at qL
      | node=>simp[aJ] at qL
      | query e V wh g h=>
       have x3:dep (.node 15 s dQ v .nil (.query e V wh g h))=1+dep (.query e V wh g h):=by rw[dep];intro h;cases h
       obtain⟨aW,rfl⟩:∃aW,qs=[M aW]:=by cases ow with | query=>exact⟨_,rfl⟩
       have bi:eh B I (.node 15 s dQ v .nil (.query e V wh g h))=eh B I (.query e V wh g h):=by rw[eh,if_neg K,if_pos rfl]
       have ai:=(HQ (.query e V wh g h) r 2 aW m h1 I w qL ow ar au r).2 trivial;refine(af5 nb b ⟨aW,0,none⟩ w (Z A (i:=0) rfl) (Z A (i:=7) rfl) (fun C w'=>C=eh B I (.query e V wh g h)/\eu nb m h1 w w'/\(C=true->i7 w' nb aE I/\dK B w' (.query e V wh g h) I m h1 [M aW])) (ai.mono fun bo w' aj=>⟨_,aj.1,rfl,aj.2.1,aj.2.2⟩)).mono ?_;rintro bo w' ⟨C,rfl,rfl,hm,cf⟩;have wG:=ow.le;refine⟨by rw[bi],hm.mono r r,fun vg=>?_⟩;rw[bi] at vg;obtain⟨bM,b9⟩:=cf vg;refine⟨bM,b,l1,m,h1,co,[],_,p0,p1,p2,rfl,⟨bq,a2,a3,a4,a5⟩,?_,hm.row K K K ag,(fun h=>by cases h),⟨ve,rfl⟩,b9⟩;rcases hm.block b (br A).1 with f | ⟨x,y,_⟩ | ⟨-,ds,U,bp,hu,f1⟩
       ·exact f.trans A
       ·omega
       ·rw[A] at f1;injection f1 with f1;injection f1 with _ f1;subst f1;rcases hu with hu | hu<;>cases hu
   ·have ak:arity k<=2:=MH k;rcases mw with⟨-,ix,rfl⟩ | ⟨-,-,-,ix,rfl⟩ | ⟨-,h,-⟩
    ·have Cz:dep (.node k s dQ v p .nil)=1+dep p:=by rw[dep]
     exact TL B aE nb aI yf ix (.inl rfl) r (fun bp hu=>HQ bp (by have:=Mu hu;omega)) b lo hi I w iU ar au r
    ·have Cz:dep (.node k s dQ v p .nil)=1+dep p:=by rw[dep]
     exact TL B aE nb aI yf ix (.inr rfl) r (fun bp hu=>HQ bp (by have:=Mu hu;omega)) b lo hi I w iU ar au r
    ·omega
def wH(B:List eb)(w:World)(I:List dC)(G:Nat)(dx:Array Value)(p:aL->Bool)(t:aL):Prop:=∀(bp:aL) (b lo hi tag:Nat),ms bp->aJ bp tag->cp bp<=cp t->dK B w bp I lo hi [M b]->tY w G dx (M b) (p bp)
def wH.part{p:aL->Bool}{ne:aL}(h:wH B w I G dx p t)(X:cp ne<=cp t):wH B w I G dx p ne:=fun bp b lo hi tag hu R hs fM=>h bp b lo hi tag hu R (bX hs X) fM
def dK.qJ{B:List eb}{w:World}{I:List dC}{lo hi:Nat}{t:aL}{vs:List Value}(h:dK B w t I lo hi vs)(ar:ms t):∃b,vs=[M b]:=h.is.qJ ar
def EI{v:al}(h:aJ (.node k s n v p U) tag):lx p/\dH p<=2/\(∃vh,aJ p vh/\(vh=3\/vh=5\/vh=6)):=by
 obtain⟨_,X,h⟩:=h;have ak:arity k<=2:=MH k;rcases h with⟨_,h,_⟩ | ⟨_,_,_,h,_⟩ | ⟨_,_,rfl,_⟩
 ·exact⟨qI h (.inl rfl),r,3,h,.inl rfl⟩
 ·exact⟨qI h (.inr (.inr rfl)),r,6,h,.inr (.inr rfl)⟩
 ·exact⟨trivial,r,3,by simp[aJ],.inl rfl⟩
def B1(eX:∀args w,(callFunc G args).run prog w=.ok (.enter G args) w)(p:aL->Bool):∀{tag:Nat} {I:List dC} {w:World} {lo hi:Nat} {vs:List Value},aJ t tag->dK B w t I lo hi vs->wH B w I G dx p t->(ms t->∃b,vs=[M b]/\pd w (.func (.func G) #[] dx) (M b) (ga p t))/\(lx t->dH t<=90000->∃bs,h3 w (.func (.func G) #[] dx) vs bs/\bs.any id=ga p t/\vs.length=dH t/\bs=(elems t).map (ga p)):=by
 induction t with
 | nil=>rintro tag I w lo hi vs - ⟨-,rfl⟩ -;exact⟨(fun h=>by cases h),fun _ _=>⟨[],trivial,rfl,rfl,rfl⟩⟩
 | cons a C cn i2=>
  rintro tag I w lo hi vs R ⟨m,v,rs,rfl,h1,H⟩ cf;refine⟨(fun h=>by cases h),fun fa X=>?_⟩;obtain⟨t1,t2,g1,g2,n1⟩:∃t1 t2,aJ a t1/\aJ C t2/\ms a:=by
   rcases R with⟨_,x,y⟩ | ⟨_,x,y⟩ | ⟨_,x,y⟩
   ·exact⟨_,_,x,y,jN x (.inl rfl)⟩
   ·exact⟨_,_,x,y,jN x (.inr (.inr rfl))⟩
   ·exact⟨_,_,x,y,jN x (.inr (.inl rfl))⟩
  obtain⟨b,e,aI⟩:=(cn g1 h1 (cf.part (by simp only[cp];omega))).1 n1;injection e with e _;subst e;obtain⟨bs,aZ,a6,dt,e8⟩:=(i2 g2 H (cf.part (by simp only[cp];omega))).2 fa (by simp only[dH] at X;omega);refine⟨ga p a::bs,⟨aI,aZ⟩,?_,?_,?_⟩
  ·rw[List.any_cons,a6];rfl
  ·simp only[di,dH,dt]
  ·rw[e8];rfl
 | node k s n v ud U cn i2=>intro tag I w lo hi vs R aj cf;have sN:=aj;obtain⟨fa,nu,vh,mw,-⟩:=EI R;obtain⟨b,l1,m,h1,co,xs,qs,p0,p1,p2,rfl,⟨bq,a2,a3,a4,a5⟩,A,ag,mn,H,ab⟩:=aj;refine⟨fun _=>⟨b,rfl,fun w' bg=>?_⟩,(fun h=>by cases h)⟩;obtain⟨bs,aZ,a6,dt,-⟩:=(cn mw H (cf.part (by simp only[cp];omega))).2 fa r;have bc:=(br A).1;have av:=cf (.node k s n v ud U) b lo hi tag trivial R ap sN;rw[show ga p (.node k s n v ud U)=(p (.node k s n v ud U)||ga p ud) from rfl,<-a6];exact afA b co xs bs _ G dx eX w' (Z ((bg.block b bc).trans A) (i:=6) rfl) (e0 bc bg.size) (ei bu (ee ag bg)) (av.below bg) (h3.later bg aZ) r
 | query=>intro tag I w lo hi vs _ _ _;exact⟨(fun h=>by cases h),(fun h=>by cases h)⟩
def MI(eX:∀args w,(callFunc G args).run prog w=.ok (.enter G args) w)(p:aL->Bool)(R:aJ t 4)(aj:dK B w t I lo hi vs)(cf:wH B w I G dx p t):pd w (.func (.func G) #[] dx) (jj vs) (ga p t):=by
 cases t with
 | nil=>obtain⟨-,rfl⟩:=aj;exact fun w' _=>afB _ G dx rfl w'
 | cons a b=>simp[aJ] at R
 | query=>simp[aJ] at R
 | node k s n v ud U=>obtain⟨b,rfl,h⟩:=(B1 eX p R aj cf).1 trivial;exact h
def l0:aL->Bool
 | .node k _ _ _ _ _=>nY k
 | _=>false
def vi:aL->Bool
 | .node k _ _ _ _ _=>decide (k=15)
 | _=>false
def HR:∀args w,(callFunc 103 args).run prog w=.ok (.enter 103 args) w:=enters_of func103 ax rfl
def agp:∀args w,(callFunc 105 args).run prog w=.ok (.enter 105 args) w:=enters_of func105 ax rfl
def dK.MJ{v:al}(h:dK B w (.node k s n v p U) I lo hi [M b])(bg:eB w w'):dp w' b 0=some (q (k:Int)):=by obtain⟨kH,l1,m,h1,co,xs,qs,p0,p1,p2,e,-,A,-⟩:=h;injection e with e _;injection e with e;injection e with e;injection e with e;subst e;exact Z ((bg.block b (br A).1).trans A) (i:=0) rfl
def HS:wH B w I 103 #[] l0 t:=by
 intro bp b lo hi tag hu _ _ aj w' bg;cases bp with
 | node k s n v p U=>refine(Hz b k w' (aj.MJ bg)).mono ?_;rintro e S ⟨rfl,rfl⟩;exact⟨rfl,Below.refl _ _⟩
 | nil=>cases hu
 | cons=>cases hu
 | query=>cases hu
def agq:wH B w I 105 #[] vi t:=by
 intro bp b lo hi tag hu _ _ aj w' bg;cases bp with
 | node k s n v p U=>refine(Mh b k w' (aj.MJ bg)).mono ?_;rintro e S ⟨rfl,rfl⟩;exact⟨rfl,Below.refl _ _⟩
 | nil=>cases hu
 | cons=>cases hu
 | query=>cases hu
def B2:aL->Bool
 | .node k _ _ _ p _=>nY k&&ga l0 p
 | _=>false
def agr{b:Bool}(h:pd w (.func (.func 103) #[] #[]) x b):tY w 154 #[] x b:=by intro w' bg;have eW:=u (h w' bg);clear h;show ey 154 #[x] w' _;go_enter func154,ntmps154;go_wp2_with (go_at_call 102;refine eW.d.mono ?_;rintro e S ⟨rfl,ah⟩);go_ret;exact⟨rfl,ah⟩
def h3.nest{w:World}:∀{xs:List Value} {bs:List Bool},h3 w (.func (.func 103) #[] #[]) xs bs->k9 w 154 #[] xs bs
 | [],[],_=>trivial
 | _::_,_::_,h=>⟨agr h.1,h3.nest h.2⟩
def ags:∀args w,(callFunc 154 args).run prog w=.ok (.enter 154 args) w:=enters_of func154 ax rfl
def T4:∀args w,(callFunc 108 args).run prog w=.ok (.enter 108 args) w:=enters_of func108 ax rfl
def agt(b k:Nat)(co:Value)(vs:List Value)(bs:List Bool)(w:World)(hk:dp w b 0=some (q (k:Int)))(zT:dp w b 6=some co)(an:eK w co vs)(cq:k9 w 154 #[] vs bs)(X:vs.length<=100000):ey 108 #[M b] w (gU w (.bool (nY k&&bs.any id))):=by
 have gu:=u (Hz b k w hk);have fG:=u (Em vs bs co w _ _ ags an cq X);clear an cq hk;generalize nY k=a at *;generalize bs.any id=C at *;cases a
 ·go_enter func108,ntmps108;go_wp2_with (go_at_call 103;refine gu.d.mono ?_;rintro e J ⟨rfl,rfl⟩);go_ret;exact⟨rfl,Below.refl _ _⟩
 ·go_enter func108,ntmps108;go_wp2_with (first | (go_at_call 103;refine gu.d.mono ?_;rintro e J ⟨rfl,rfl⟩) | (go_at_call 152;refine fG.d.mono ?_;rintro e S ⟨rfl,ah⟩));go_ret;exact⟨rfl,ah⟩
def T5:wH B w I 108 #[] B2 t:=by
 intro bp b lo hi tag hu R _ aj w' bg;cases bp with
 | node k s n v p U=>obtain⟨fa,nu,vh,mw,-⟩:=EI R;have GK:=aj.below bg;obtain⟨kH,l1,m,h1,co,xs,qs,p0,p1,p2,e,-,A,ag,-,H,-⟩:=GK;injection e with e _;injection e with e;injection e with e;injection e with e;subst e;obtain⟨bs,aZ,a6,dt,-⟩:=(B1 HR l0 mw H HS).2 fa r;have:=agt b k co xs bs w' (Z A (i:=0) rfl) (Z A (i:=6) rfl) (ei bu ag) aZ.nest r;rw[a6] at this;exact this
 | nil=>cases hu
 | cons=>cases hu
 | query=>cases hu
