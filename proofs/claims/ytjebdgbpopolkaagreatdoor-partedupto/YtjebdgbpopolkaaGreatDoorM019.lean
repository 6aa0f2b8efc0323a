import Derived.Test.YtjebdgbpopolkaaGreatDoorM018
set_option maxHeartbeats 0
set_option maxRecDepth 100000
set_option linter.all false
namespace Go.Proofs.YtjebdgbpopolkaaGreatDoor
open Tryz
open Go.RowKit
open bS
variable{w:World}{v x z:Value}{b:Bool}{base bytes aW size:Nat}{I:List dC}{n s:e6}{p:Nat×Nat×Nat}{B:List eb}{g t:aL}{bs:List Bool}{e rP:TypeId}{xs:List Value}{ks:List Nat}
def wI(l:lh)(s:e6):Bool:=l.any fun x=>decide (x.2=s)
def EJ(s n:e6):aL->Bool
 | .node _ fu iG _ _ _=>decide (fu=s/\iG=n)
 | _=>false
def HT(g:aL)(s n:e6):Bool:=(elems g).any (EJ s n)
def mx(l:lh)(g:aL):aL->Bool
 | .nil=>false
 | .cons h t=>mx l g h||mx l g t
 | .node k s n _ p _=>if nY k then false else if k=1 then wI l s&&!HT g s n else mx l g p
 | .query _ _ _ _ _=>false
def agu(t c m:e6)(bB nb:Nat)(w:World)(bw:dp w bB 0=some (M nb))(X:bB<w.heap.size)(ar:dp w nb 1=some (.string m))(la:nb<w.heap.size):ey 233 #[.agg #[.string t,.string c],M bB] w (gU w (.bool (decide (c=m)))):=by
 have bK:=u (Mi c m);have fA:=bH w (.cells #[.string t,.string c] 161);have aO:Below w.heap.size w (w.alloc (.cells #[.string t,.string c] 161)):=cT;have bk:=Z fA (i:=1) rfl;have ye:=dr aO bw X;have cH:=dr aO ar la;have b4:=u aO;clear fA aO bw ar;go_enter func233,ntmps233;go_upto_region 1 with fail;generalize w.alloc (.cells #[.string t,.string c] 161)=W at *;generalize cr:w.heap.size=aB at *;have eo:=u cr;clear cr;go_quiet (fail);go_wp2_with fail;go_ret;exact⟨congrArg (fun x=>Ending.returned (.bool x)) bK.d,by rw[eo.d];exact b4.d.trans ⟨rfl,rfl,rfl,ap,fun _ _=>rfl⟩⟩
def agv(xs:List (Value×Value))(bs:List Bool)(a:Option Addr)(af lo:Nat)(w:World)(G:Nat)(dx:Array Value)(eX:∀args w,(callFunc G args).run prog w=.ok (.enter G args) w)(an:w.ownsRow lo 161 2 (.slice a xs.length af) xs.length (h4 xs))(cq:k9 w G dx (xs.map zU) bs)(X:xs.length<=100000):ey 232 #[.slice a xs.length af,.func (.func G) #[] dx] w (gU w (.bool (bs.any id))):=by have eW:=u (idxFrom xs bs a af lo w G dx eX an cq X);have bK:=u (Tv bs);clear an cq eX;generalize nV (bs.findIdx? id)=gX at *;generalize bs.any id=cm at *;go_enter func232,ntmps232;go_wp2_with (go_at_call 277;refine eW.d.mono ?_;rintro e J ⟨rfl,bJ⟩);go_ret;exact⟨congrArg (fun x=>Ending.returned (.bool x)) bK.d,bJ⟩
def EK(s:e6×e6):Value×Value:=(.string s.1,.string s.2)
def T6{w:World}{bB nb:Nat}{m:e6}(bw:dp w bB 0=some (M nb))(X:bB<w.heap.size)(ar:dp w nb 1=some (.string m))(la:nb<w.heap.size):∀(l:lh),k9 w 233 #[M bB] ((l.map EK).map zU) (l.map fun s=>decide (s.2=m))
 | []=>trivial
 | s::C=>⟨fun w' bg=>agu s.1 s.2 m bB nb w' (dr bg bw X) (e0 X bg.size) (dr bg ar la) (e0 la bg.size),T6 bw X ar la C⟩
def agw(aW nb:Nat)(eD:Option Addr)(hJ:Nat)(l:lh)(m:e6)(w:World)(ae:dp w aW 1=some (.slice eD l.length hJ))(jz:aW<w.heap.size)(an:w.ownsRow 0 161 2 (.slice eD l.length hJ) l.length (lj l))(X:l.length<=100000)(ar:dp w nb 1=some (.string m))(la:nb<w.heap.size):ey 155 #[M aW,M nb] w (gU w (.bool (wI l m))):=by
 have eX:∀args w,(callFunc 233 args).run prog w=.ok (.enter 233 args) w:=enters_of func233 ax rfl;have fA:=bH w (.cells #[M nb] 101);have aO:Below w.heap.size w (w.alloc (.cells #[M nb] 101)):=cT;have aN:Hid (ey 232 #[.slice eD l.length hJ,.func (.func 233) #[] #[M w.heap.size]] (w.alloc (.cells #[M nb] 101)) fun e w'=>e=.returned (.bool (wI l m))/\Below (w.alloc (.cells #[M nb] 101)).heap.size (w.alloc (.cells #[M nb] 101)) w'):=u (by
  have ag:(w.alloc (.cells #[M nb] 101)).ownsRow 0 161 2 (.slice eD (l.map EK).length hJ) (l.map EK).length (h4 (l.map EK)):=by rw[cZ];have:=an.alloc (.cells #[M nb] 101);rw[HI] at this;exact this
  have:=agv (l.map EK) (l.map fun s=>decide (s.2=m)) eD hJ 0 _ _ _ eX ag (T6 (Z fA (i:=0) rfl) (by simp) (dr aO ar la) (e0 la aO.size) l) (by rw[cZ];exact X);rw[cZ] at this;have e:(l.map fun s=>decide (s.2=m)).any id=wI l m:=by rw[List.any_map];rfl
  rw[e] at this;exact this)
 have c1:=dr aO ae jz;have b4:=u aO;clear fA aO an ae eX ar;generalize wI l m=cm at *;go_enter func155,ntmps155;go_wp2_with (go_at_call 232;refine aN.d.mono ?_;rintro e J ⟨rfl,bJ⟩);go_ret;exact⟨rfl,b4.d.trans (bJ.mono b4.d.size)⟩
def agx(p0 p1 p2 k6 q1 bN:Int)(w:World):(Op.equalIn 10000 245 (.agg #[q p0,q p1,q p2]) (.agg #[q k6,q q1,q bN])).run prog w=.ok (decide (p0=k6/\p1=q1/\p2=bN)) w:=by have u3:=underlying3;have a3:=Tryz.isAgg3;have z3:=Tryz.sizeOf3;have u4:=underlying110;have a4:=Tryz.isAgg110;have z4:=Tryz.sizeOf110;have cv:prog.underlying 245=some (.struct (prog.fieldsOf 245)):=ax;have aj:prog.stoodInHeld 245=false:=ax;rw[show(10000:Nat)=9999+1 from rfl,run_equalIn_agg w 9999 245 _ _ cv aj];simp only[Program.fieldsOf,underlying245];go_simp;by_cases h1:p0=k6<;>by_cases H:p1=q1<;>by_cases ab:p2=bN<;>simp[h1,H,ab]
def agy(dx nb bB:Nat)(p0 p1 p2 k6 q1 bN:Int)(w:World)(bw:dp w bB 0=some (M nb))(bk:dp w dx 8=some (q p0))(c1:dp w dx 9=some (q p1))(c2:dp w dx 10=some (q p2))(d0:dp w nb 8=some (q k6))(d1:dp w nb 9=some (q q1))(d2:dp w nb 10=some (q bN)):ey 234 #[M dx,M bB] w (gU w (.bool (decide (p0=k6/\p1=q1/\p2=bN)))):=by have E:=agx p0 p1 p2 k6 q1 bN;have R:prog.eqGuardType prog.depth 245=false:=ax;generalize decide (p0=k6/\p1=q1/\p2=bN)=C at *;go_enter func234,ntmps234;go_upto_region 1 with fail;go_quiet (fail);go_wp2_with fail;go_ret;exact⟨rfl,⟨rfl,rfl,rfl,ap,fun _ _=>rfl⟩⟩
def agz(v:Value)(xs:List Value)(w:World)(h:eK w v xs)(h1:1<=xs.length)(X:xs.length<=10000)(aa:∀y∈xs,y.oneCell'=true):ey 106 #[v] w fun e w'=>∃cF,e=.returned cF/\w'.ownsRow w.heap.size 101 1 cF xs.length xs/\Below w.heap.size w w':=by
 obtain⟨g,af,rfl⟩:∃g af,v=.slice (some ⟨g,0,none⟩) xs.length af:=by
  rcases h.2 with⟨_,aw⟩ | ⟨g,af,ay,e,_⟩
  ·omega
  ·exact⟨g,af,e⟩
 have B3:(w.alloc (.cells #[] 101)).ownsRow w.heap.size 101 1 (.slice (some ⟨w.heap.size,0,none⟩) 0 0) 0 []:=⟨rfl,.inr ⟨w.heap.size,0,#[],rfl,ap,bH w _,ap,by unfold maxLen;omega,rfl,rfl⟩⟩;have cr:Below w.heap.size w (w.alloc (.cells #[] 101)):=cT;obtain⟨v2,S,eN,ej,bC⟩:=GZ B3 (ee h cr) aa r (by rw[cc];omega);have ah:Below w.heap.size w S:=cr.grown bC (by rw[cc];omega) (fun k e=>(B3.lt k e).1);rw[ax1,List.nil_append] at ej;have cK:=u eN;have U:∀(w:World) (a:Option Addr) (n c iG e7:Nat),(binOp .eql 99 (.slice a n c) (.slice none iG e7)).run prog w=.ok (.bool a.isNone) w:=fun w a n c iG e7=>Lib.run_eql_slice_nil w _ _ a n c iG e7 underlying99;clear eN h B3;go_enter func106,ntmps106;go_wp2_with (at_builtin;refine Lib.wpList_append_run _ rfl _ _ _ _ rfl _ _ rfl rfl _ _ (cK.d _) ?_)
 go_ret;exact⟨v2,rfl,ej,ah⟩
def agA:∀args w,(callFunc 153 args).run prog w=.ok (.enter 153 args) w:=enters_of func153 ax rfl
def agB(h:pd w (.func (.func 103) #[] #[]) x b):tY w 153 #[] x b:=by intro w' bg;have eW:=u (h w' bg);clear h;show ey 153 #[x] w' _;go_enter func153,ntmps153;go_wp2_with (go_at_call 102;refine eW.d.mono ?_;rintro e S ⟨rfl,ah⟩);go_ret;exact⟨rfl,ah⟩
def h3.MK{w:World}:∀{xs:List Value} {bs:List Bool},h3 w (.func (.func 103) #[] #[]) xs bs->k9 w 153 #[] xs bs
 | [],[],_=>trivial
 | _::_,_::_,h=>⟨agB h.1,h3.MK h.2⟩
def T7(aW cl o4:Nat)(bf:Option Addr)(ev sv wv hv:Value)(es:List Value)(bs:List Bool)(w:World)(A:w.heap[aW]?=some (.cells #[ev,sv,wv,.slice bf cl o4,hv] 103 (0,0)))(ar:Bool)(aj:hv=.pointer none/\ar=false\/∃a,hv=.pointer (some a)/\ar=true)(he:eK w ev es)(cq:k9 w 153 #[] es bs)(X:es.length<=100000):ey 107 #[M aW] w (gU w (.bool (decide (0<cl)||ar||bs.any id))):=by
 have aN:=u (Em es bs ev w _ _ agA he cq X);have d0:=Z A (i:=0) rfl;have d3:=Z A (i:=3) rfl;have d4:=Z A (i:=4) rfl;clear he cq A;generalize bs.any id=C at *;by_cases aw:0<cl
 ·have xy:(0:Int)<(cl:Int):=r;rw[ax3 aw];go_enter func107,ntmps107;go_wp2_with fail;go_ret;exact⟨rfl,Below.refl _ _⟩
 ·obtain rfl:cl=0:=r;rcases aj with⟨rfl,rfl⟩ | ⟨x,rfl,rfl⟩
  rotate_left
  ·go_enter func107,ntmps107;go_wp2_with fail;go_ret;exact⟨rfl,Below.refl _ _⟩
  ·go_enter func107,ntmps107;go_wp2_with (go_at_call 152;refine aN.d.mono ?_;rintro e S ⟨rfl,ah⟩);go_ret;exact⟨rfl,ah⟩
def Aa(w:World)(U x:Value)(b:Bool):Prop:=∀w',Below w.heap.size w w'->ey 109 #[U,x] w' (gU w' (.bool b))
def kK(w:World)(U:Value):List Value->List Bool->Prop
 | [],[]=>True
 | v::vs,b::bs=>Aa w U v b/\kK w U vs bs
 | _,_=>False
def Aa.later{J:World}{U:Value}(h:Aa w U x b)(A:Below w.heap.size w J):Aa J U x b:=fun w' bg=>h w' (A.trans (bg.mono A.size))
def kK.later{w J:World}{U:Value}(A:Below w.heap.size w J):∀{xs:List Value} {bs:List Bool},kK w U xs bs->kK J U xs bs
 | [],[],_=>trivial
 | _::_,_::_,h=>⟨h.1.later A,kK.later A h.2⟩
def agC{W:World}{bB:Nat}(A:Below w.heap.size w W)(bw:dp W bB 0=some (M aW))(o9:bB<W.heap.size)(h:Aa w (M aW) x b):tY W 157 #[M bB] x b:=by intro w' bg;have eW:=u (h w' (A.trans (bg.mono A.size)));have bk:=dr bg bw o9;clear h A bw o9;show ey 157 #[x,M bB] w' _;go_enter func157,ntmps157;go_wp2_with (go_at_call 109;refine eW.d.mono ?_;rintro e S ⟨rfl,ah⟩);go_ret;exact⟨rfl,ah⟩
def kK.within{w W:World}{aW bB:Nat}(A:Below w.heap.size w W)(bw:dp W bB 0=some (M aW))(o9:bB<W.heap.size):∀{xs:List Value} {bs:List Bool},kK w (M aW) xs bs->k9 W 157 #[M bB] xs bs
 | [],[],_=>trivial
 | _::_,_::_,h=>⟨agC A bw o9 h.1,kK.within A bw o9 h.2⟩
def agD:∀args w,(callFunc 157 args).run prog w=.ok (.enter 157 args) w:=enters_of func157 ax rfl
def agE(aW b k:Nat)(co:Value)(vs:List Value)(bs:List Bool)(w:World)(bZ:k≠1)(hk:dp w b 0=some (q (k:Int)))(zT:dp w b 6=some co)(bc:b<w.heap.size)(an:eK w co vs)(cq:kK w (M aW) vs bs)(X:vs.length<=100000):ey 109 #[M aW,M b] w (gU w (.bool (if nY k then false else bs.any id))):=by
 have aO:Below w.heap.size w (w.alloc (.cells #[M aW] 54)):=cT;have fA:=bH w (.cells #[M aW] 54);have o8:=dr aO hk bc;have asa:=dr aO zT bc;have gu:=u (Hz b k _ o8);have fG:=u (Em vs bs co _ _ _ agD (pS an aO) (kK.within aO (Z fA (i:=0) rfl) (by simp) cq) X);have aI:((k:Int)==1)=false:=by rw[cV];omega
 have b4:=u aO;have ye:=Z fA (i:=0) rfl;clear an cq fA aO hk zT;generalize nY k=a at *;generalize bs.any id=C at *;cases a
 ·go_enter func109,ntmps109;go_wp2_with (first | (go_at_call 103;refine gu.d.mono ?_;rintro e J ⟨rfl,rfl⟩) | (go_at_call 152;refine fG.d.mono ?_;rintro e S ⟨rfl,ah⟩));go_ret;exact⟨rfl,b4.d.trans (ah.mono b4.d.size)⟩
 ·go_enter func109,ntmps109;go_wp2_with (go_at_call 103;refine gu.d.mono ?_;rintro e J ⟨rfl,rfl⟩);go_ret;exact⟨rfl,b4.d⟩
def agF(aW b:Nat)(bq a2:Bool)(w:World)(hk:dp w b 0=some (q 1))(bc:b<w.heap.size)(ct:∀w',Below w.heap.size w w'->ey 155 #[M aW,M b] w' (gU w' (.bool bq)))(R:∀w',Below w.heap.size w w'->ey 156 #[M aW,M b] w' (gU w' (.bool a2))):ey 109 #[M aW,M b] w (gU w (.bool (bq&&!a2))):=by
 have aO:Below w.heap.size w (w.alloc (.cells #[M aW] 54)):=cT;have fA:=bH w (.cells #[M aW] 54);have o8:=dr aO hk bc;have gu:=u (Hz b 1 _ o8);have T8:=u (ct _ aO);have agG:Hid (∀w',Below (w.alloc (.cells #[M aW] 54)).heap.size (w.alloc (.cells #[M aW] 54)) w'->dp w' w.heap.size 0=some (M aW)/\ey 156 #[M aW,M b] w' (gU w' (.bool a2))):=u (fun w' bg=>⟨dr bg (Z fA (i:=0) rfl) (by simp),R w' (aO.trans (bg.mono aO.size))⟩);have b4:=u aO;have ye:=Z fA (i:=0) rfl;clear ct R fA aO hk;cases bq
 ·go_enter func109,ntmps109;go_wp2_with (first | (go_at_call 103;refine gu.d.mono ?_;rintro e J ⟨rfl,rfl⟩) | (go_at_call 155;refine T8.d.mono ?_;rintro e S ⟨rfl,ah⟩));go_ret;exact⟨rfl,b4.d.trans (ah.mono b4.d.size)⟩
 ·go_enter func109,ntmps109;go_wp2_with (first | (go_at_call 103;refine gu.d.mono ?_;rintro e J ⟨rfl,rfl⟩) | (go_at_call 155;refine T8.d.mono ?_;rintro e S ⟨rfl,ah⟩;obtain⟨asb,gN⟩:=agG.d S ah) | (go_at_call 156;refine gN.mono ?_;rintro e aA ⟨rfl,cg⟩));go_ret;exact⟨rfl,(b4.d.trans (ah.mono b4.d.size)).trans (cg.mono (bX b4.d.size ah.size))⟩
def EL(h:placeOf I s n=some p):∃(hi:p.1<I.length) (aS:p.2.1<I[p.1].bl.length),I[p.1].called=s/\I[p.1].bl[p.2.1].1=n/\p.2.2=I[p.1].bl[p.2.1].2:=by unfold placeOf at h;obtain⟨i,hi,h⟩:=aV h;obtain⟨x,aa,h⟩:=aV h;obtain⟨j,aS,h⟩:=Option.map_eq_some_iff.1 h;subst h;obtain⟨h1,H,_⟩:=List.findIdx?_eq_some_iff_getElem.1 hi;obtain⟨ab,aK⟩:=List.getElem?_eq_some_iff.1 aa;subst aK;obtain⟨cO,cE,_⟩:=List.findIdx?_eq_some_iff_getElem.1 aS;refine⟨h1,cO,of_decide_eq_true H,of_decide_eq_true cE,?_⟩;simp only[List.getD_eq_getElem?_getD,fC cO,Option.getD_some]
def agH{fu iG:e6}{ue:Nat×Nat×Nat}(h:placeOf I s n=some p)(cC:placeOf I fu iG=some ue):((p.1:Int)=(ue.1:Int)/\(p.2.1:Int)=(ue.2.1:Int)/\(p.2.2:Int)=(ue.2.2:Int))↔(s=fu/\n=iG):=by
 constructor
 ·rintro⟨Y,am,bm⟩;obtain⟨bq,a2,a3,a4,_⟩:=EL h;obtain⟨cN,bL,fS,jg,_⟩:=EL cC;have f1:p.1=ue.1:=r;have f2:p.2.1=ue.2.1:=r;clear Y am bm;obtain⟨i,j,k⟩:=p;obtain⟨asc,uf,jY⟩:=ue;simp only at f1 f2;subst f1 f2;exact⟨a3.symm.trans fS,a4.symm.trans jg⟩
 ·rintro⟨rfl,rfl⟩;rw[h] at cC;obtain rfl:=bx cC;exact⟨rfl,rfl,rfl⟩
def agI:∀args w,(callFunc 234 args).run prog w=.ok (.enter 234 args) w:=enters_of func234 ax rfl
def agJ(aW nb:Nat)(gv:Value)(vs:List Value)(bs:List Bool)(w:World)(ae:dp w aW 3=some gv)(jz:aW<w.heap.size)(an:eK w gv vs)(X:vs.length<=100000)(cq:∀(W:World) (bB:Nat),Below w.heap.size w W->dp W bB 0=some (M nb)->bB<W.heap.size->k9 W 234 #[M bB] vs bs):ey 156 #[M aW,M nb] w (gU w (.bool (bs.any id))):=by
 have fA:=bH w (.cells #[M nb] 101);have aO:Below w.heap.size w (w.alloc (.cells #[M nb] 101)):=cT;have aN:=u (Em vs bs gv _ _ _ agI (pS an aO) (cq _ w.heap.size aO (Z fA (i:=0) rfl) (by simp)) X);have c1:=dr aO ae jz;have b4:=u aO;clear fA aO an ae cq;generalize bs.any id=cm at *;go_enter func156,ntmps156;go_wp2_with (go_at_call 152;refine aN.d.mono ?_;rintro e J ⟨rfl,bJ⟩);go_ret;exact⟨rfl,b4.d.trans (bJ.mono b4.d.size)⟩
def agK{nb:Nat}(mn:placeOf I s n=some p)(ar:∀i,i<3->dp w nb (8+i)=some (q ([(p.1:Int),(p.2.1:Int),(p.2.2:Int)].getD i 0)))(la:nb<w.heap.size):∀{lo hi:Nat} {vs:List Value},aJ g 5->dK B w g I lo hi vs->∀(W:World) (bB:Nat),Below w.heap.size w W->dp W bB 0=some (M nb)->bB<W.heap.size->k9 W 234 #[M bB] vs ((elems g).map (EJ s n)):=by
 induction g with
 | nil=>rintro lo hi vs - ⟨-,rfl⟩ W bB _ _ _;trivial
 | node=>intro lo hi vs h;simp only[aJ] at h;omega
 | query=>intro lo hi vs h;simp only[aJ] at h;omega
 | cons a C cn i2=>
  rintro lo hi vs R ⟨m,v,rs,rfl,h1,H⟩ W bB A bw o9;rcases R with⟨h,_⟩ | ⟨_,g1,g2⟩ | ⟨h,_⟩
  ·omega
  ·refine⟨?_,i2 g2 H W bB A bw o9⟩;intro w' bg;cases a with
   | nil=>simp[aJ] at g1
   | cons=>simp[aJ] at g1
   | query=>simp[aJ] at g1
   | node k fu iG pV ud U=>
    have aI:k=1:=by obtain⟨_,_,h⟩:=g1;omega
    have fT:Below w.heap.size w w':=A.trans (bg.mono A.size);obtain⟨b,l1,pQ,og,co,xs,qs,p0,p1,p2,e,-,jL,-,aj,-⟩:=h1.below fT;injection e with e _;subst e;obtain⟨ue,GK,rfl,rfl,rfl⟩:=aj aI;have:=agy b nb bB _ _ _ _ _ _ w' (dr bg bw o9) (Z jL (i:=8) rfl) (Z jL (i:=9) rfl) (Z jL (i:=10) rfl) (dr fT (ar 0 r) la) (dr fT (ar 1 r) la) (dr fT (ar 2 r) la);have am:decide ((ue.1:Int)=(p.1:Int)/\(ue.2.1:Int)=(p.2.1:Int)/\(ue.2.2:Int)=(p.2.2:Int))=EJ s n (.node k fu iG pV ud U):=by unfold EJ;exact decide_eq_decide.2 (agH GK mn)
    rw[<-am];exact this
  ·omega
def T9{ev sv wv gv hv:Value}{V:lh}{agL agM:Nat}{gs:List Value}(ae:w.heap[aW]?=some (.cells #[ev,sv,wv,gv,hv] 103 (0,0)))(hs:w.ownsRow 0 161 2 sv V.length (lj V))(pK:V.length<=100000)(ig:eK w gv gs)(en:aJ g 5)(Ua:dK B w g I agL agM gs)(ef:dH g<=90000):∀{tag lo hi:Nat} {vs:List Value},aJ t tag->dK B w t I lo hi vs->(ms t->∃b,vs=[M b]/\Aa w (M aW) (M b) (mx V g t))/\(lx t->dH t<=90000->∃bs,kK w (M aW) vs bs/\bs.any id=mx V g t/\vs.length=dH t/\bs=(elems t).map (mx V g)):=by
 induction t with
 | nil=>rintro tag lo hi vs - ⟨-,rfl⟩;exact⟨(fun h=>by cases h),fun _ _=>⟨[],trivial,rfl,rfl,rfl⟩⟩
 | cons a C cn i2=>
  rintro tag lo hi vs R ⟨m,v,rs,rfl,h1,H⟩;refine⟨(fun h=>by cases h),fun fa X=>?_⟩;obtain⟨t1,t2,g1,g2,n1⟩:∃t1 t2,aJ a t1/\aJ C t2/\ms a:=by
   rcases R with⟨_,x,y⟩ | ⟨_,x,y⟩ | ⟨_,x,y⟩
   ·exact⟨_,_,x,y,jN x (.inl rfl)⟩
   ·exact⟨_,_,x,y,jN x (.inr (.inr rfl))⟩
   ·exact⟨_,_,x,y,jN x (.inr (.inl rfl))⟩
  obtain⟨b,e,aI⟩:=(cn g1 h1).1 n1;injection e with e _;subst e;obtain⟨bs,aZ,a6,dt,e8⟩:=(i2 g2 H).2 fa (by simp only[dH] at X;omega);refine⟨mx V g a::bs,⟨aI,aZ⟩,?_,?_,?_⟩
  ·rw[List.any_cons,a6];rfl
  ·simp only[di,dH,dt]
  ·rw[e8];rfl
 | query=>intro tag lo hi vs _ _;exact⟨(fun h=>by cases h),(fun h=>by cases h)⟩
 | node k s n pV p U cn i2=>
  intro tag lo hi vs R aj;obtain⟨fa,nu,vh,mw,-⟩:=EI R;obtain⟨b,l1,m,h1,co,xs,qs,p0,p1,p2,rfl,-,A,ag,mn,H,-⟩:=aj;refine⟨fun _=>⟨b,rfl,fun w' bg=>?_⟩,(fun h=>by cases h)⟩;have bc:=(br A).1;have jz:=(br ae).1;have ah:=(bg.block b bc).trans A;have kL:=(bg.block aW jz).trans ae;by_cases aI:k=1
  ·subst aI;obtain⟨pp,n2,rfl,rfl,rfl⟩:=mn rfl;have e:mx V g (.node 1 s n pV p U)=(wI V s&&!HT g s n):=by show(if nY 1 then false else if 1=1 then wI V s&&!HT g s n else mx V g p)=_;rw[if_neg K,if_pos rfl]
   rw[e];obtain⟨eD,hJ,rfl⟩:∃eD hJ,sv=.slice eD V.length hJ:=by
    rcases hs.2 with⟨rfl,aw⟩ | ⟨x,af,ay,rfl,_⟩
    ·exact⟨_,_,by rw[aw]⟩
    ·exact⟨_,_,rfl⟩
   refine agF aW b _ _ w' (Z ah (i:=0) rfl) (e0 bc bg.size) (fun S cg=>?_) (fun S cg=>?_)
   ·have fT:=bg.trans (cg.mono bg.size);exact agw aW b eD hJ V s S (Z ((fT.block aW jz).trans ae) (i:=1) rfl) (e0 jz fT.size) (ee hs fT) pK (Z ((fT.block b bc).trans A) (i:=1) rfl) (e0 bc fT.size)
   ·have fT:=bg.trans (cg.mono bg.size);have rI:gs.length=dH g:=by obtain⟨E,Y,_,_,_,_,_,wj⟩:=vf en (.inr (.inl rfl)) Ua.is;exact wj
    have:=agJ aW b gv gs ((elems g).map (EJ s n)) S (Z ((fT.block aW jz).trans ae) (i:=3) rfl) (e0 jz fT.size) (pS ig fT) r (agK n2 (fun i hi=>by
     have ly:=(fT.block b bc).trans A;match i,hi with
     | 0,_=>exact Z ly (i:=8) rfl
     | 1,_=>exact Z ly (i:=9) rfl
     | 2,_=>exact Z ly (i:=10) rfl) (e0 bc fT.size) en (Ua.below fT))
    rw[List.any_map] at this;exact this
  ·obtain⟨bs,aZ,a6,dt,-⟩:=(cn mw H).2 fa r;have e:mx V g (.node k s n pV p U)=if nY k then false else bs.any id:=by show(if nY k then false else if k=1 then wI V s&&!HT g s n else mx V g p)=_;rw[if_neg aI,a6]
   rw[e];exact agE aW b k co xs bs w' aI (Z ah (i:=0) rfl) (Z ah (i:=6) rfl) (e0 bc bg.size) (ei bu (ee ag bg)) (aZ.later bg) r
def lf(fi:Bool)(e5 a1:List Bool):List Bool:=List.zipWith (fun n s=>n||(fi&&s)) e5 a1
def h3.len{w:World}{hv:Value}:∀{xs:List Value} {bs:List Bool},h3 w hv xs bs->xs.length=bs.length
 | [],[],_=>rfl
 | _::_,_::_,h=>by simp[h3.len h.2]
def kK.len{w:World}{U:Value}:∀{xs:List Value} {bs:List Bool},kK w U xs bs->xs.length=bs.length
 | [],[],_=>rfl
 | _::_,_::_,h=>by simp[kK.len h.2]
def h3.get{w:World}{hv:Value}:∀{xs:List Value} {bs:List Bool},h3 w hv xs bs->∀(j:Nat) (h1:j<xs.length) (H:j<bs.length),pd w hv xs[j] bs[j]
 | [],[],_,j,h1,_=>absurd h1 (fp _)
 | _::_,_::_,h,0,_,_=>h.1
 | _::_,_::_,h,j+1,a,b=>h3.get h.2 j (by simpa using a) (by simpa using b)
def kK.get{w:World}{U:Value}:∀{xs:List Value} {bs:List Bool},kK w U xs bs->∀(j:Nat) (h1:j<xs.length) (H:j<bs.length),Aa w U xs[j] bs[j]
 | [],[],_,j,h1,_=>absurd h1 (fp _)
 | _::_,_::_,h,0,_,_=>h.1
 | _::_,_::_,h,j+1,a,b=>kK.get h.2 j (by simpa using a) (by simpa using b)
def h3.app{w:World}{hv:Value}:∀{xs ys:List Value} {bs cs:List Bool},h3 w hv xs bs->h3 w hv ys cs->h3 w hv (xs++ys) (bs++cs)
 | [],_,[],_,_,H=>H
 | _::_,_,_::_,_,h,H=>⟨h.1,h3.app h.2 H⟩
def kK.app{w:World}{U:Value}:∀{xs ys:List Value} {bs cs:List Bool},kK w U xs bs->kK w U ys cs->kK w U (xs++ys) (bs++cs)
 | [],_,[],_,_,H=>H
 | _::_,_,_::_,_,h,H=>⟨h.1,kK.app h.2 H⟩
def Ub(h:pR bs bs.length):bs.any id=false:=by rw[List.any_eq_false];intro b A;obtain⟨i,hi,rfl⟩:=List.mem_iff_getElem.1 A;have:=h i hi hi;simp[this]
def Uc{j:Nat}(aS:j<bs.length)(e:bs[j]=true):bs.any id=true:=List.any_eq_true.2 ⟨_,ec aS,e⟩
def agN(aW:Nat)(ev sv wv gv hv:Value)(bq a2 a3:Bool)(w:World)(A:w.heap[aW]?=some (.cells #[ev,sv,wv,gv,hv] 103 (0,0)))(fF:(bq||a2||a3)=true)(H1:pd w (.func (.func 103) #[] #[]) wv bq)(iH:pd w (.func (.func 104) #[] #[]) wv a2)(l2:pd w (.func (.func 105) #[] #[]) hv a3):ey 67 #[M aW] w (gU w (.bool false)):=by
 have d2:=Z A (i:=2) rfl;have d4:=Z A (i:=4) rfl;have jz:=(br A).1;have gu:=u (H1 w (Below.refl _ _));have fG:Hid (∀w',Below w.heap.size w w'->dp w' aW 2=some wv/\dp w' aW 4=some hv/\ey 102 #[wv,.func (.func 104) #[] #[]] w' (gU w' (.bool a2))):=u (fun w' bg=>⟨dr bg d2 jz,dr bg d4 jz,iH w' bg⟩);have BR:Hid (∀w',Below w.heap.size w w'->dp w' aW 4=some hv/\ey 102 #[hv,.func (.func 105) #[] #[]] w' (gU w' (.bool a3))):=u (fun w' bg=>⟨dr bg d4 jz,l2 w' bg⟩);clear H1 iH l2 A;cases bq
 ·cases a2
  ·cases a3
   ·cases fF
   ·clear fF;go_enter func67,ntmps67;go_wp2_with (first | (go_at_call 102;refine HV.mono ?_;rintro e aA ⟨rfl,cg⟩) | (go_at_call 102;refine gQ.mono ?_;rintro e S ⟨rfl,ah⟩;obtain⟨g4,HV⟩:=BR.d S (bJ.trans (ah.mono bJ.size))) | (go_at_call 102;refine gu.d.mono ?_;rintro e J ⟨rfl,bJ⟩;obtain⟨f2,f4,gQ⟩:=fG.d J bJ));go_ret;exact⟨rfl,(bJ.trans (ah.mono bJ.size)).trans (cg.mono (bX bJ.size ah.size))⟩
  ·clear fF;go_enter func67,ntmps67;go_wp2_with (first | (go_at_call 102;refine gQ.mono ?_;rintro e S ⟨rfl,ah⟩) | (go_at_call 102;refine gu.d.mono ?_;rintro e J ⟨rfl,bJ⟩;obtain⟨f2,f4,gQ⟩:=fG.d J bJ));go_ret;exact⟨rfl,bJ.trans (ah.mono bJ.size)⟩
 ·clear fF;go_enter func67,ntmps67;go_wp2_with (go_at_call 102;refine gu.d.mono ?_;rintro e J ⟨rfl,bJ⟩);go_ret;exact⟨rfl,bJ⟩
def agO(aW:Nat)(ev sv wv gv hv:Value)(es hs:List Value)(fi:Bool)(e5 a1:List Bool)(w:World)(A:w.heap[aW]?=some (.cells #[ev,sv,wv,gv,hv] 103 (0,0)))(H1:pd w (.func (.func 103) #[] #[]) wv false)(iH:pd w (.func (.func 104) #[] #[]) wv false)(l2:pd w (.func (.func 105) #[] #[]) hv false)(he:eK w ev es)(x2:∀y∈es,y.oneCell'=true)(h1:1<=es.length)(X:es.length<=9000)(cf:hv=.pointer none/\hs=[]\/∃k,hv=.pointer (some k)/\hs=[.pointer (some k)])(gN:∀w',Below w.heap.size w w'->ey 107 #[M aW] w' (gU w' (.bool fi)))(bn:h3 w (.func (.func 108) #[] #[]) (es++hs) e5)(gy:kK w (M aW) (es++hs) a1):ey 67 #[M aW] w (gU w (.bool (!(lf fi e5 a1).any id))):=by
 have d0:=Z A (i:=0) rfl;have d2:=Z A (i:=2) rfl;have d4:=Z A (i:=4) rfl;have jz:=(br A).1;have gu:=u (H1 w (Below.refl _ _));have fG:Hid (∀w',Below w.heap.size w w'->dp w' aW 2=some wv/\dp w' aW 4=some hv/\ey 102 #[wv,.func (.func 104) #[] #[]] w' (gU w' (.bool false))):=u (fun w' bg=>⟨dr bg d2 jz,dr bg d4 jz,iH w' bg⟩);have BR:Hid (∀w',Below w.heap.size w w'->dp w' aW 4=some hv/\dp w' aW 0=some ev/\ey 102 #[hv,.func (.func 105) #[] #[]] w' (gU w' (.bool false))):=u (fun w' bg=>⟨dr bg d4 jz,dr bg d0 jz,l2 w' bg⟩)
 have Ud:Hid (∀w',Below w.heap.size w w'->dp w' aW 0=some ev/\ey 106 #[ev] w' fun e bW=>∃cF,e=.returned cF/\bW.ownsRow w'.heap.size 101 1 cF es.length es/\Below w'.heap.size w' bW):=u (fun w' bg=>⟨dr bg d0 jz,agz ev es w' (pS he bg) h1 r x2⟩);have agP:Hid (∀w',Below w.heap.size w w'->dp w' aW 4=some hv):=u (fun w' bg=>dr bg d4 jz);have qM:=u gN;have agQ:=u cf;have HU:=u bn;have yk:=u gy;have HW:=u bn.len;have Ue:=u gy.len;clear H1 iH l2 A gN cf bn gy he x2;go_enter func67,ntmps67
 go_upto_region 4 with(first | (go_at_call 106;refine Uf.mono ?_;rintro e bI ⟨v4,rfl,lN,lM⟩) | (go_at_call 102;refine HV.mono ?_;rintro e aA ⟨rfl,cg⟩;obtain⟨i0,Uf⟩:=Ud.d aA ((bJ.trans (ah.mono bJ.size)).trans (cg.mono (bX bJ.size ah.size)))) | (go_at_call 102;refine gQ.mono ?_;rintro e S ⟨rfl,ah⟩;obtain⟨g4,g0,HV⟩:=BR.d S (bJ.trans (ah.mono bJ.size))) | (go_at_call 102;refine gu.d.mono ?_;rintro e J ⟨rfl,bJ⟩;obtain⟨f2,f4,gQ⟩:=fG.d J bJ));have qC:Below w.heap.size w aA:=(bJ.trans (ah.mono bJ.size)).trans (cg.mono (bX bJ.size ah.size));have B4:Below w.heap.size w bI:=qC.trans (lM.mono qC.size);clear gu fG BR Ud gQ HV Uf f2 f4 g4 g0 i0 d0 d2 d4;have z4:=lM.size;have z3:=qC.size;have jM:=agP.d bI B4;rcases agQ.d with⟨rfl,rfl⟩ | ⟨k,rfl,rfl⟩
 obtain⟨bh,rfl⟩:∃x,x=bI:=⟨_,rfl⟩;have nx:=B4;have jI:eK bh v4 (es++[]):=by rw[List.append_nil];exact BC lN rfl
 have mI:(es++([]:List Value)).length<=10000:=by rw[List.append_nil];omega
 clear lN;generalize es++[]=xs at *;rotate_left;obtain⟨v5,bh,qA,Ug,iR⟩:=G4 (some k) lN r z4;have nx:Below w.heap.size w bh:=B4.trans (iR.mono (bX z3 ap));have jI:eK bh v5 (es++[.pointer (some k)]):=BC Ug (by simp);go_upto_region 6 with(at_builtin;refine Lib.wpList_append_run _ rfl _ _ _ _ rfl _ _ rfl rfl _ _ (qA _) ?_);have mI:(es++[Value.pointer (some k)]).length<=10000:=by rw[cu,di,List.length_nil];omega
 clear qA Ug lN iR;generalize es++[.pointer (some k)]=xs at *;all_goals
  obtain⟨a5,fO,rfl⟩:=cG jI;have zW:=u (qM.d bh nx);have e9:=u jI;go_upto_region 8 with(go_at_call 107;refine zW.d.mono ?_;rintro e cw ⟨rfl,Ab⟩);have pb:Below w.heap.size w cw:=nx.trans (Ab.mono nx.size);have ML:=u (pS e9.d Ab);clear e9 zW Ab;go_loopg [47] (xs.length+1) (fun U i wr=>∃j:Nat,j<=xs.length/\i=q (j:Int)/\Hid (pR (lf fi e5 a1) j)/\Below cw.heap.size cw wr/\xs.length-j<U);case atStart=>exact⟨0,bu,rfl,u (fun i _ hi=>absurd hi (fp _)),Below.refl _ _,r⟩
  case round=>
   obtain⟨j,aS,rfl,b8,eG,ae⟩:=hrel;by_cases aD:j<xs.length
   ·have cL:(j:Int)<(xs.length:Int):=r;have qB:j<e5.length:=by have:=HW.d;omega
    have HX:j<a1.length:=by have:=Ue.d;omega
    have i6:j<(lf fi e5 a1).length:=by unfold lf;rw[List.length_zipWith];omega
    have kp:Below w.heap.size w wr:=pb.trans (eG.mono pb.size);obtain⟨dM,cJ,bo,bk⟩:=(pS ML.d eG).cell j aD;obtain⟨rfl,rfl⟩:a5=some ⟨dM,0,none⟩/\fO=cJ:=by injection bo with Y am bm;exact⟨Y,bm⟩
    have fr:IntKind.i64.wrap ((j:Int)+1)=(j:Int)+1:=mC;have ch:=u ae;have lg:=u (HU.d.get j aD qB wr kp);have oD:Hid (∀w',Below wr.heap.size wr w'->ey 109 #[M aW,xs[j]] w' (gU w' (.bool a1[j]))):=u (fun w' bg=>yk.d.get j aD HX w' (kp.trans (bg.mono kp.size)));have bn:Hid (∀b,(e5[j]||(fi&&a1[j]))=b->(b=true->(lf fi e5 a1).any id=true)/\(b=false->pR (lf fi e5 a1) (j+1))):=u (fun b bg=>by
     have EM:(lf fi e5 a1)[j]=b:=by simp only[lf,List.getElem_zipWith];exact bg
     refine⟨fun e=>Uc i6 (EM.trans e),fun e a ak cf=>?_⟩;by_cases Y:a=j
     ·subst Y;exact EM.trans e
     ·exact b8.d a ak r)
    generalize e5[j]=MM at lg bn;generalize a1[j]=c5 at oD bn;generalize xs[j]=x at *;clear b8 ae bo;cases MM
    ·cases fi
     ·have bj:=u ((bn.d _ rfl).2 rfl);clear bn oD;go_wp2_with (go_at_call 102;refine lg.d.mono ?_;rintro e mL ⟨rfl,lz⟩);have ae:=ch.d;go_roundg (xs.length-j);case measure=>omega
      case rel=>exact⟨j+1,r,by go_num,bj,eG.trans (lz.mono eG.size),r⟩
     ·cases c5
      ·have bj:=u ((bn.d _ rfl).2 rfl);clear bn;go_wp2_with (first | (go_at_call 109;refine(oD.d _ lz).mono ?_;rintro e zx ⟨rfl,rO⟩) | (go_at_call 102;refine lg.d.mono ?_;rintro e mL ⟨rfl,lz⟩));have ae:=ch.d;go_roundg (xs.length-j);case measure=>omega
       case rel=>exact⟨j+1,r,by go_num,bj,(eG.trans (lz.mono eG.size)).trans (rO.mono (bX eG.size lz.size)),r⟩
      ·have bj:=u ((bn.d _ rfl).1 rfl);clear bn;go_wp2_with (first | (go_at_call 109;refine(oD.d _ lz).mono ?_;rintro e zx ⟨rfl,rO⟩) | (go_at_call 102;refine lg.d.mono ?_;rintro e mL ⟨rfl,lz⟩));go_ret;exact⟨by rw[bj.d];rfl,(kp.trans (lz.mono kp.size)).trans (rO.mono (bX kp.size lz.size))⟩
    ·have bj:=u ((bn.d _ rfl).1 rfl);clear bn oD;go_wp2_with (go_at_call 102;refine lg.d.mono ?_;rintro e mL ⟨rfl,lz⟩);go_ret;exact⟨by rw[bj.d];rfl,kp.trans (lz.mono kp.size)⟩
   ·have eZ:(lf fi e5 a1).length<=j:=by unfold lf;rw[List.length_zipWith];have:=HW.d;omega
    have bj:=u (Ub (bs:=lf fi e5 a1) (fun a ak cf=>b8.d a ak r));have cL:(xs.length:Int)<=(j:Int):=r;have kp:Below w.heap.size w wr:=pb.trans (eG.mono pb.size);clear b8 ae;go_wp2_with fail;go_ret;exact⟨by rw[bj.d];rfl,kp⟩
def wJ:aL->List aL
 | .nil=>[]
 | t=>[t]
def h6:aL->Bool
 | .nil=>false
 | .cons h t=>h6 h||h6 t
 | .node k _ _ _ p U=>(decide (k=15)&&h6 U)||h6 p
 | .query e l w g h=>ga l0 w||h6 w||ga vi h||((elems e++wJ h).any fun n=>ga B2 n||((decide (0<dH g)||!isNone h||ga l0 e)&&mx l g n))
def wK:aL->Bool
 | .node k _ _ _ _ U=>decide (k=15)&&h6 U
 | _=>false
def agR:∀{tag:Nat},aJ t tag->(ms t\/lx t)->ga wK t=h6 t:=by
 induction t with
 | nil=>intro _ _ _;rfl
 | cons a C cn i2=>
  intro tag R h;have fa:lx C:=by rcases h with h | h;cases h;exact h
  obtain⟨t1,t2,g1,g2,n1⟩:∃t1 t2,aJ a t1/\aJ C t2/\ms a:=by
   rcases R with⟨_,x,y⟩ | ⟨_,x,y⟩ | ⟨_,x,y⟩
   ·exact⟨_,_,x,y,jN x (.inl rfl)⟩
   ·exact⟨_,_,x,y,jN x (.inr (.inr rfl))⟩
   ·exact⟨_,_,x,y,jN x (.inr (.inl rfl))⟩
  show(ga wK a||ga wK C)=(h6 a||h6 C);rw[cn g1 (.inl n1),i2 g2 (.inr fa)]
 | node k s n v p U cn i2=>intro tag R _;obtain⟨fa,_,vh,mw,-⟩:=EI R;show(wK (.node k s n v p U)||ga wK p)=_;rw[cn mw (.inr fa)];rfl
 | query=>intro _ _ h;rcases h with h | h<;>cases h
def Uh(w:World)(v:Value)(C:Bool):Prop:=∀w',Below w.heap.size w w'->ey 67 #[v] w' (gU w' (.bool (!C)))
def agS:∀args w,(callFunc 104 args).run prog w=.ok (.enter 104 args) w:=enters_of func104 ax rfl
def agT(b k:Nat)(w:World)(HY:k≠15)(hk:dp w b 0=some (q (k:Int))):ey 104 #[M b] w (gU w (.bool false)):=by have aN:=u (Mh b k w hk);rw[ax2 HY] at aN;clear hk;go_enter func104,ntmps104;go_wp2_with (go_at_call 105;refine aN.d.mono ?_;rintro e J ⟨rfl,rfl⟩);go_ret;exact⟨rfl,Below.refl _ _⟩
def agU(b:Nat)(BS:Addr)(C:Bool)(w:World)(hk:dp w b 0=some (q 15))(ae:dp w b 7=some (.pointer (some BS)))(hs:Uh w (.pointer (some BS)) C):ey 104 #[M b] w (gU w (.bool C)):=by have aN:=u (Mh b 15 w hk);have gy:=u (hs w (Below.refl _ _));clear hk hs;go_enter func104,ntmps104;go_wp2_with (first | (go_at_call 67;refine gy.d.mono ?_;rintro e S ⟨rfl,ah⟩) | (go_at_call 105;refine aN.d.mono ?_;rintro e J ⟨rfl,rfl⟩));go_ret;exact⟨by simp,ah⟩
def agV(fi:Bool)(f s:aL->Bool)(l:List aL):(lf fi (l.map f) (l.map s)).any id=l.any fun n=>f n||(fi&&s n):=by unfold lf;rw[List.zipWith_map,List.zipWith_self,List.any_map];rfl
def agW(B:List eb):∀(n:Nat) (t:aL),cp t<=n->∀(I:List dC) (w:World) (lo hi b:Nat),aJ t 2->dK B w t I lo hi [M b]->Uh w (M b) (h6 t):=by
 intro n;induction n with
 | zero=>
  intro t hs I w lo hi b R;cases t with
  | nil=>simp[aJ] at R
  | cons a C=>simp[cp] at hs
  | node=>simp[cp] at hs
  | query=>simp[cp] at hs
 | succ n aH=>
  intro t ff I fI lo hi aW R sN w hK;have aj:=sN.below hK;clear sN hK;cases t with
  | nil=>simp[aJ] at R
  | cons a C=>simp[aJ] at R
  | node=>simp[aJ] at R
  | query e V wh g h=>
   obtain⟨-,ge,TM,TN,TO,mU,il,TP,jO⟩:=R;have MN:cp (.query e V wh g h)=cp e+cp wh+cp g+cp h+1:=by rw[cp]
   obtain⟨bU,b,l1,m1,m2,m3,h1,ev,sv,gv,es,ws,gs,hs,c7,hle,ak,⟨bq,a2,a3,a4,a5⟩,A,cX,cA,AV,hx,dL,jk,jM⟩:=aj;injection c7 with c7 _;injection c7 with c7;injection c7 with c7;injection c7 with c7;subst c7;have agX:wH B w bU 104 #[] wK wh:=by
    intro bp kH nJ fM tag hu agY asd Ui w' bg;cases bp with
    | nil=>cases hu
    | cons=>cases hu
    | query=>cases hu
    | node k s dQ v p U=>
     by_cases yf:k=15
     ·subst yf;have mj:aJ U 2:=by
       obtain⟨_,_,aa⟩:=agY;rcases aa with⟨aa,_⟩ | ⟨_,_,aa,_⟩ | ⟨_,_,_,aa⟩
       ·omega
       ·omega
       ·exact aa
      obtain⟨bL,ase,pQ,og,co,xs,qs,p0,p1,p2,am,-,jL,-,-,-,EN⟩:=Ui.below bg;injection am with am _;injection am with am;injection am with am;injection am with am;subst am;have agZ:∃HZ,qs=[M HZ]:=by
       cases U with
       | nil=>simp[aJ] at mj
       | cons=>simp[aJ] at mj
       | node=>simp[aJ] at mj
       | query=>obtain⟨_,bN,_,_,_,_,_,_,_,_,_,_,_,_,ae,_⟩:=EN;exact⟨bN,ae⟩
      obtain⟨HZ,rfl⟩:=agZ;have ag0:cp U<=n:=by have:cp (.node 15 s dQ v p U)=cp p+cp U+1:=rfl;omega
      have:=agU kH ⟨HZ,0,none⟩ (h6 U) w' (Z jL (i:=0) rfl) (Z jL (i:=7) rfl) (aH U ag0 bU w' _ _ HZ mj EN);show ey 104 #[M kH] w' _;have em:wK (.node 15 s dQ v p U)=h6 U:=by show(decide (15=15)&&h6 U)=h6 U;rw[ax3 rfl,Bool.true_and]
      rw[em];exact this
     ·have:=agT kH k w' yf (Ui.MJ bg);show ey 104 #[M kH] w' _;have em:wK (.node k s dQ v p U)=false:=by show(decide (k=15)&&h6 U)=false;rw[ax2 yf,Bool.false_and]
      rw[em];exact this
   have ag1:ms wh\/lx wh:=by
    cases wh with
    | nil=>exact .inr trivial
    | cons=>simp[aJ] at mU
    | node=>exact .inl trivial
    | query=>simp[aJ] at mU
   have H1:=MI HR l0 mU dL HS;have iH:=MI agS wK mU dL agX;have l2:=MI agp vi jO jM agq;rw[agR mU ag1] at iH;by_cases fF:(ga l0 wh||h6 wh||ga vi h)=true
   ·have bm:h6 (.query e V wh g h)=true:=by show(ga l0 wh||h6 wh||ga vi h||_)=true;rw[fF,Bool.true_or]
    rw[bm];exact agN aW ev sv _ gv _ _ _ _ w A fF H1 iH l2
   ·have fF:(ga l0 wh||h6 wh||ga vi h)=false:=by simpa using fF
    have bz:ga l0 wh=false:=by cases aa:ga l0 wh;rfl;rw[aa] at fF;simp at fF
    have cz:h6 wh=false:=by cases aa:h6 wh;rfl;rw[aa] at fF;simp at fF
    have fP:ga vi h=false:=by cases aa:ga vi h;rfl;rw[aa] at fF;simp at fF
    rw[bz] at H1;rw[cz] at iH;rw[fP] at l2;have EO:=qI ge (.inl rfl);obtain⟨jP,BX,yi,BY,zZ,MA,MB,TR⟩:=vf ge (.inl rfl) hx.is;have EF:∀y∈es,y.oneCell'=true:=by rw[<-BX];exact EA BY (fun x aa=>(zZ x aa).1)
    obtain⟨_,_,_,_,_,_,_,EE⟩:=vf il (.inr (.inl rfl)) jk.is;obtain⟨_,_,_,_,_,_,_,z7⟩:=EB jO jM.is;obtain⟨MO,Ac,EP,MP,Ad⟩:=(B1 HR l0 ge hx HS).2 EO r;obtain⟨ag2,B5,H0,asf,ag3⟩:=(B1 T4 B2 ge hx T5).2 EO r;have Uj:=ei bu cA;have EQ:eK w gv gs:=ei bu AV;obtain⟨ag4,ha,jJ,e3,ag5⟩:=(T9 A Uj r EQ il jk r ge hx).2 EO r;have ag6:h3 w (.func (.func 108) #[] #[]) hs ((wJ h).map (ga B2))/\kK w (M aW) hs ((wJ h).map (mx V g))/\(jj hs=.pointer none/\(!isNone h)=false\/∃a,jj hs=.pointer (some a)/\(!isNone h)=true):=by
     cases h with
     | nil=>obtain⟨-,rfl⟩:=jM;exact⟨trivial,trivial,.inl ⟨rfl,rfl⟩⟩
     | cons=>simp[aJ] at jO
     | query=>simp[aJ] at jO
     | node k s dQ v p U=>obtain⟨cN,Y,cS⟩:=(B1 T4 B2 jO jM T5).1 trivial;obtain⟨bL,am,cv⟩:=(T9 A Uj r EQ il jk r jO jM).1 trivial;subst Y;injection am with am _;rw[<-am] at cv;exact⟨⟨cS,trivial⟩,⟨cv,trivial⟩,.inr ⟨_,rfl,rfl⟩⟩
    obtain⟨ag7,ag8,MQ⟩:=ag6;obtain⟨bf,o4,rfl⟩:∃bf o4,gv=.slice bf gs.length o4:=by
     rcases EQ.2 with⟨rfl,aw⟩ | ⟨x,af,ay,rfl,_⟩
     ·exact⟨_,_,by rw[aw]⟩
     ·exact⟨_,_,rfl⟩
    have gN:∀w',Below w.heap.size w w'->ey 107 #[M aW] w' fun bo bW=>bo=.returned (.bool (decide (0<dH g)||!isNone h||ga l0 e))/\Below w'.heap.size w' bW:=fun w' bg=>by have:=T7 aW gs.length o4 bf ev sv (jj ws) (jj hs) es MO w' ((bg.block aW (br A).1).trans A) (!isNone h) MQ (pS (ei bu cX) bg) (h3.MK (h3.later bg Ac)) r;rw[EP,EE] at this;exact this
    have ag9:=agO aW ev sv _ _ _ es hs _ _ _ w A H1 iH l2 (ei bu cX) EF r r z7 gN (h3.app B5 ag7) (kK.app ha ag8);have bm:h6 (.query e V wh g h)=(lf (decide (0<dH g)||!isNone h||ga l0 e) (ag2++(wJ h).map (ga B2)) (ag4++(wJ h).map (mx V g))).any id:=by show(ga l0 wh||h6 wh||ga vi h||_)=_;rw[fF,Bool.false_or,ag3,ag5,<-List.map_append,<-List.map_append,agV]
    rw[bm];exact ag9
def MR(hu:prog.underlying rP=some (.slice e))(MS:(prog.info? e).map (fun i=>(i.zero,i.size,i.bytes))=some (some z,size,bytes))(MT:z.cells.size=size)(ff:0<size)(Ae:bytes<=1000){n:Nat}(hv:w.ownsRow base e size v n xs){a:Addr}{m c:Nat}{ys:List Value}(X:ys.length=m*size)(ai:∀j bp,ys[j]?=some bp->w.cell? (a.add j)=some bp)(h1:∀bp∈ys,bp.oneCell'=true)(ou:n+m<=1000000000)(A:base<=w.heap.size):∃cF w',(∀ty,(Builtin.append_ #[rP,rP] ty #[v,.slice (some a) m c]).run prog w=.ok cF w')/\w'.ownsRow base e size cF (n+m) (xs++ys)/\w.grownBy w' v.ownBlock/\(cF.ownBlock=v.ownBlock\/cF.ownBlock=some w.heap.size):=by
 obtain⟨i0,hi,gj,gx,cd⟩:=info_parts MS;obtain⟨cF,w',ag,H,ab,_,cO⟩:=run_append_own_at (P:=prog) w base rP rP e i0 z size bytes hu hi gj gx cd MT ff v n xs hv a m c ys X ai h1 (by unfold maxLen;omega) (bX (Nat.mul_le_mul ou Ae) K) A;refine⟨cF,w',fun ty=>?_,H,ab,cO⟩;have:Builtin.append_ #[rP,rP] ty #[v,.slice (some a) m c]=Builtin.append_ #[rP,rP] rP #[v,.slice (some a) m c]:=rfl;rw[this];exact ag
def ug(hu:prog.underlying rP=some (.slice e))(MS:(prog.info? e).map (fun i=>(i.zero,i.size,i.bytes))=some (some z,size,bytes))(MT:z.cells.size=size)(ff:0<size)(Ae:bytes<=1000){n:Nat}(hv:w.ownsRow base e size v n xs)(cs:Array Value)(X:cs.size=size)(h1:∀bp∈cs.toList,bp.oneCell'=true)(ou:n<=900000000)(A:base<=w.heap.size):∃cF w',(∀ty,(Builtin.append_ #[rP,rP] ty #[v,.slice (some ⟨w.heap.size,0,none⟩) 1 1]).run prog (w.alloc (.cells cs e))=.ok cF w')/\w'.ownsRow base e size cF (n+1) (xs++cs.toList)/\(w.alloc (.cells cs e)).grownBy w' v.ownBlock/\(cF.ownBlock=v.ownBlock\/cF.ownBlock=some (w.heap.size+1)):=by
 have ah:=bH w (.cells cs e);obtain⟨cF,w',H,ab,aK,cO⟩:=MR hu MS MT ff Ae (hv.alloc (.cells cs e)) (a:=⟨w.heap.size,0,none⟩) (m:=1) (c:=1) (ys:=cs.toList) (by rw[ax7,X,Nat.one_mul]) (fun j bp aS=>by
  rw[Addr.add_lit,ax1];exact Z ah (by rw[<-Array.getElem?_toList];exact aS)) h1 r (by rw[cc];omega)
 refine⟨cF,w',H,ab,aK,?_⟩;rw[cc] at cO;exact cO
def aha:(prog.info? 110).map (fun i=>(i.zero,i.size,i.bytes))=some (some (q 0),1,8):=ax
def yl(w:World)(v:Value)(ks:List Nat):Prop:=w.ownsRow 0 110 1 v ks.length (oj ks)
def yl.cell(h:yl w v ks)(i:Nat)(hi:i<ks.length):∃g af,v=.slice (some ⟨g,0,none⟩) ks.length af/\dp w g i=some (q (ks[i]:Int)):=by
 rcases h.2 with⟨_,aw⟩ | ⟨g,af,ay,rfl,_⟩
 ·omega
 ·refine⟨g,af,rfl,?_⟩;have:=World.ownsRow.cells h rfl i (q (ks[i]:Int)) (by rw[oj,List.getElem?_map,fC hi];rfl);rwa [Addr.add_lit,ax1] at this
def yl.len(h:yl w v ks):∃a af,v=.slice a ks.length af:=by
 rcases h.2 with⟨rfl,aw⟩ | ⟨g,af,ay,rfl,_⟩
 ·exact⟨none,0,by rw[aw]⟩
 ·exact⟨_,_,rfl⟩
def ahb(v:Value)(ks:List Nat)(k:Nat)(w:World)(h:yl w v ks)(X:ks.length<=100):ey 235 #[v,q (k:Int)] w fun e w'=>∃gX:Int,e=.returned (q gX)/\decide (0<=gX)=ek ks k/\w=w':=by
 obtain⟨a,af,rfl⟩:=h.len;go_enter func235,ntmps235;go_wp2_with fail;go_loop [8] (fun i=>∃j:Nat,j<=ks.length/\i=q j/\rf ks k j) (fun i=>ks.length-(intOf i).toNat);case atStart=>exact⟨0,bu,rfl,by simp[rf]⟩
 case round=>
  obtain⟨j,aS,rfl,b8⟩:=hrel;by_cases aD:j<ks.length
  ·obtain⟨g,cJ,hv,ai⟩:=h.cell j aD;obtain⟨rfl,rfl⟩:a=some ⟨g,0,none⟩/\af=cJ:=by simpa using hv
   have cL:(j:Int)<(ks.length:Int):=r;by_cases he:k=ks[j]
   ·have rh:((k:Int)==(ks[j]:Int))=true:=by rw[beq_iff_eq];omega
    have aN:Hid (ek ks k=true):=u (Kw aD he);clear b8 hv he;go_wp2_with fail;go_ret;exact⟨j,rfl,by rw[aN.d];exact ax3 r,rfl⟩
   ·have rh:((k:Int)==(ks[j]:Int))=false:=by rw[cV];omega
    have bn:=u (b8.next aD he);have fr:IntKind.i64.wrap ((j:Int)+1)=(j:Int)+1:=mC;clear b8 hv he;go_wp2_with fail;go_round;case rel=>exact⟨j+1,r,by go_num,bn.d⟩
    case measure=>simp[intOf];omega
  ·have cL:(ks.length:Int)<=(j:Int):=r;have aN:Hid (ek ks k=false):=u (b8.done aD);clear b8;go_wp2_with fail;go_ret;exact⟨-1,rfl,by rw[aN.d];rfl,rfl⟩
def Uk(v:Value)(ks:List Nat)(k:Nat)(w:World)(h:yl w v ks)(X:ks.length<=100):ey 158 #[v,q (k:Int)] w (ov w (.bool (ek ks k))):=by go_enter func158,ntmps158;go_wp2_with (go_at_call 235;refine(ahb v ks k _ h X).mono ?_;rintro e w' ⟨gX,rfl,fz,rfl⟩;have kj:=u fz;clear fz);go_ret;exact⟨by rw[<-kj.d];rfl,rfl⟩
def uh(w:World)(v:Value)(ks:List Nat):Prop:=w.ownsRow 0 73 1 v ks.length (oj ks)
def uh.cell(h:uh w v ks)(i:Nat)(hi:i<ks.length):∃g af,v=.slice (some ⟨g,0,none⟩) ks.length af/\dp w g i=some (q (ks[i]:Int)):=by
 rcases h.2 with⟨_,aw⟩ | ⟨g,af,ay,rfl,_⟩
 ·omega
 ·refine⟨g,af,rfl,?_⟩;have:=World.ownsRow.cells h rfl i (q (ks[i]:Int)) (by rw[oj,List.getElem?_map,fC hi];rfl);rwa [Addr.add_lit,ax1] at this
def uh.len(h:uh w v ks):∃a af,v=.slice a ks.length af:=by
 rcases h.2 with⟨rfl,aw⟩ | ⟨g,af,ay,rfl,_⟩
 ·exact⟨none,0,by rw[aw]⟩
 ·exact⟨_,_,rfl⟩
def ahc(v:Value)(ks:List Nat)(k:Nat)(w:World)(h:uh w v ks)(X:ks.length<=100):ey 97 #[v,q (k:Int)] w fun e w'=>∃gX:Int,e=.returned (q gX)/\decide (0<=gX)=ek ks k/\w=w':=by
 obtain⟨a,af,rfl⟩:=h.len;go_enter func97,ntmps97;go_wp2_with fail;go_loop [8] (fun i=>∃j:Nat,j<=ks.length/\i=q j/\rf ks k j) (fun i=>ks.length-(intOf i).toNat);case atStart=>exact⟨0,bu,rfl,by simp[rf]⟩
 case round=>
  obtain⟨j,aS,rfl,b8⟩:=hrel;by_cases aD:j<ks.length
  ·obtain⟨g,cJ,hv,ai⟩:=h.cell j aD;obtain⟨rfl,rfl⟩:a=some ⟨g,0,none⟩/\af=cJ:=by simpa using hv
   have cL:(j:Int)<(ks.length:Int):=r;by_cases he:k=ks[j]
   ·have rh:((k:Int)==(ks[j]:Int))=true:=by rw[beq_iff_eq];omega
    have aN:Hid (ek ks k=true):=u (Kw aD he);clear b8 hv he;go_wp2_with fail;go_ret;exact⟨j,rfl,by rw[aN.d];exact ax3 r,rfl⟩
   ·have rh:((k:Int)==(ks[j]:Int))=false:=by rw[cV];omega
    have bn:=u (b8.next aD he);have fr:IntKind.i64.wrap ((j:Int)+1)=(j:Int)+1:=mC;clear b8 hv he;go_wp2_with fail;go_round;case rel=>exact⟨j+1,r,by go_num,bn.d⟩
    case measure=>simp[intOf];omega
  ·have cL:(ks.length:Int)<=(j:Int):=r;have aN:Hid (ek ks k=false):=u (b8.done aD);clear b8;go_wp2_with fail;go_ret;exact⟨-1,rfl,by rw[aN.d];rfl,rfl⟩
def ahd(v:Value)(ks:List Nat)(k:Nat)(w:World)(h:uh w v ks)(X:ks.length<=100):ey 64 #[v,q (k:Int)] w (ov w (.bool (ek ks k))):=by go_enter func64,ntmps64;go_wp2_with (go_at_call 97;refine(ahc v ks k _ h X).mono ?_;rintro e w' ⟨gX,rfl,fz,rfl⟩;have kj:=u fz;clear fz);go_ret;exact⟨by rw[<-kj.d];rfl,rfl⟩
def uh.made(w:World)(ks:List Nat)(cs:Array Value)(h:cs.toList=oj ks)(X:ks.length<=100):uh (w.alloc (.cells cs 73)) (.slice (some ⟨w.heap.size,0,none⟩) ks.length ks.length) ks:=by
 have b7:(oj ks).length=ks.length:=by simp[oj]
 refine⟨by rw[b7,Nat.mul_one],Or.inr ⟨w.heap.size,ks.length,cs,rfl,bu,bH w _,ap,by unfold maxLen;omega,?_,?_⟩⟩
 ·rw[<-ax7,h,b7,Nat.mul_one]
 ·rw[h,Nat.mul_one,<-b7,List.take_length]
