import Derived.Test.YtjebdgbpopolkaaGreatDoorM011
import Derived.Lib.AppendZerosOnto
set_option maxHeartbeats 0
set_option maxRecDepth 100000
set_option linter.all false
namespace Go.Proofs.YtjebdgbpopolkaaGreatDoor
open Tryz
open Go.RowKit
open bS
variable{w w' J:World}{bB b base j n:Nat}{v:Value}{xs ys:List Value}{ds:List Nat}{t:aL}
def eK(w:World)(v:Value)(xs:List Value):Prop:=w.ownsRow 0 101 1 v xs.length xs
def adt(n:Nat)(w:World)(h1:1<=n)(ar:n<=10000):ey 226 #[.slice none 0 0,q (n:Int)] w fun e w'=>∃G,e=.returned (.slice (some ⟨w.heap.size,0,none⟩) 0 G)/\w'.ownsRow w.heap.size 101 1 (.slice (some ⟨w.heap.size,0,none⟩) 0 G) 0 []/\eB w w':=by
 obtain⟨i0,hi,gj,gx,cd⟩:=info_parts GN;have GX:(0:Int)<(n:Int):=r;have xZ:∀ty,(Builtin.append_ #[99,3] ty #[.slice none 0 0,q (n:Int)]).run prog w=.ok (.slice (some ⟨w.heap.size,0,none⟩) (0+n) (grownCap w (0+n) 0 101)) (w.drew.alloc (.cells (([]:List Value).toArray++Builtin.zeroCells (Value.pointer none).cells n++Builtin.zeroCells (Value.pointer none).cells (grownCap w (0+n) 0 101-(0+n))) 101)):=fun ty=>Lib.run_append_grow_zeros w 99 3 ty 101 i0 (.pointer none) .i64 .i64 underlying99 underlying3 hi gj none 0 0 [] (run_firstCells_none w.drew i0.size 0 0 0) n r r r r (by rw[cd];omega) (growslice_fits r (by rw[cd];omega))
 have DQ:0+n<=grownCap w (0+n) 0 101:=grownCap_ge w _ _ _;have x0:=grownCap_le_maxLen w (0+n) 0 101 (by unfold maxLen;omega);generalize grownCap w (0+n) 0 101=G at *;rw[ax1] at xZ DQ;have lS:(Value.pointer none).cells=#[.pointer none]:=rfl;have ff:(([]:List Value).toArray++Builtin.zeroCells (Value.pointer none).cells n++Builtin.zeroCells (Value.pointer none).cells (G-n)).size=G*1:=by rw[Array.size_append,Array.size_append,size_zeroCells,size_zeroCells,lS];simp;omega
 generalize ([]:List Value).toArray++Builtin.zeroCells (Value.pointer none).cells n++Builtin.zeroCells (Value.pointer none).cells (G-n)=ay at *;have GY:(G:Int)<=9223372036854775807:=by unfold maxLen at x0;omega
 have Sl:(n:Int)<=(G:Int):=r;go_enter func226,ntmps226;go_wp2_with (at_builtin;refine Lib.wpList_append_run _ rfl _ _ _ _ rfl _ _ rfl rfl _ _ (xZ _) ?_);all_goals
  go_ret;exact⟨G,rfl,World.ownsRow_made w.drew ay G ap x0 ff,((Below.refl _ w).drew).alloc ap _⟩
def GZ{bp:Value}{m:Nat}(hv:w.ownsRow base 101 1 v n xs)(hu:w.ownsRow 0 101 1 bp m ys)(h1:∀y∈ys,y.oneCell'=true)(ou:n+m<=100000)(A:base<=w.heap.size):∃cF w',(∀ty,(Builtin.append_ #[99,99] ty #[v,bp]).run prog w=.ok cF w')/\w'.ownsRow base 101 1 cF (n+m) (xs++ys)/\w.grownBy w' v.ownBlock:=by
 obtain⟨i0,hi,gj,gx,cd⟩:=info_parts GN;rcases hu.2 with⟨rfl,rfl⟩ | ⟨g,af,ay,rfl,_⟩
 ·have hy:ys=[]:=ma (by rw[hu.1]);subst hy;refine⟨v,w,fun ty=>run_append_owned_none w base _ ty _ i0 1 underlying99 hi v n xs hv,by simpa using hv,uQ _ _⟩
 ·have ai:=hu.cells rfl;obtain⟨cF,w',ag,H,ab,_⟩:=run_append_own (P:=prog) w base 99 99 101 i0 (.pointer none) 1 8 underlying99 hi gj gx cd rfl K v n xs hv ⟨g,0,none⟩ m af ys hu.1 ai h1 (by unfold maxLen;omega) r A;refine⟨cF,w',fun ty=>?_,H,ab⟩;have:Builtin.append_ #[99,99] ty #[v,.slice (some ⟨g,0,none⟩) m af]=Builtin.append_ #[99,99] 99 #[v,.slice (some ⟨g,0,none⟩) m af]:=rfl;rw[this];exact ag
def adu(N:Nat)(s1 s2:Value)(xs ys:List Value)(w:World)(cS:w.heap[N]?=some (.cells #[s1,s2] 99 (0,0)))(h1:eK w s1 xs)(H:eK w s2 ys)(aa:∀y∈xs,y.oneCell'=true)(hy:∀y∈ys,y.oneCell'=true)(jZ:1<=xs.length)(X:xs.length+ys.length<=10000):ey 148 #[.slice (some ⟨N,0,none⟩) 2 2] w fun e w'=>∃v,e=.returned v/\w'.ownsRow w.heap.size 101 1 v (xs.length+ys.length) (xs++ys)/\eB w w':=by
 obtain⟨bq,c1,rfl⟩:=cG h1;obtain⟨a2,c2,rfl⟩:=cG H;have d0:=Z cS (i:=0) rfl;have d1:=Z cS (i:=1) rfl;have q8:IntKind.i64.wrap ((xs.length:Int))=(xs.length:Int):=mC;have q9:IntKind.i64.wrap ((xs.length:Int)+(ys.length:Int))=(xs.length:Int)+(ys.length:Int):=mC;have dA:¬((xs.length:Int)<0):=r;have er:¬((xs.length:Int)+(ys.length:Int)<0):=r;go_enter func148,ntmps148;go_wp2_with fail;refine wp_loop_rounds 3 ?_;rw[rounds_succ];go_wp2_with fail;rw[rounds_succ];go_wp2_with fail;rw[rounds_succ];go_wp2_with fail;have ig:=adt (xs.length+ys.length) w r r;rw[Int.natCast_add] at ig;refine ig.mono ?_;rintro e J ⟨G,rfl,iF,bJ⟩;have Sm:N<w.heap.size:=(br cS).1
 have Lh:J.heap[N]?=some (.cells #[.slice bq xs.length c1,.slice a2 ys.length c2] 99 (0,0)):=(bJ.block N Sm).trans cS;have b3:=bJ.size;have aI:eK J (.slice bq xs.length c1) xs:=ee h1 bJ;have aZ:eK J (.slice a2 ys.length c2) ys:=ee H bJ;obtain⟨v2,S,eN,ej,bC⟩:=GZ iF aI aa r b3;have zA:∀k,(Value.slice (some ⟨w.heap.size,0,none⟩) 0 G).ownBlock=some k->w.heap.size<=k:=fun k e=>(iF.lt k e).1;have ah:eB w S:=bJ.grown bC b3 zA;have o0:S.heap[N]?=some (.cells #[.slice bq xs.length c1,.slice a2 ys.length c2] 99 (0,0)):=(ah.block N Sm).trans cS;have z2:=ah.size;have G0:eK S (.slice a2 ys.length c2) ys:=ee H ah;rw[ax1,List.nil_append] at ej;obtain⟨v3,aA,ir,ie,eC⟩:=GZ ej G0 hy r z2
 have cg:eB w aA:=ah.grown eC z2 (fun k e=>(ej.lt k e).1);clear d0 d1;have d0:=Z Lh (i:=0) rfl;have d1:=Z o0 (i:=1) rfl;go_wp2_with fail;refine wp_loop_rounds 3 ?_;rw[rounds_succ];go_wp2_with (at_builtin;refine Lib.wpList_append_run _ rfl _ _ _ _ rfl _ _ rfl rfl _ _ (eN _) ?_);rw[rounds_succ];go_wp2_with (at_builtin;refine Lib.wpList_append_run _ rfl _ _ _ _ rfl _ _ rfl rfl _ _ (ir _) ?_);rw[rounds_succ];go_wp2_with fail;go_ret;exact⟨v3,rfl,ie,cg⟩
def zB(w:World)(v:Value)(aq:Nat):Prop:=∀w':World,eB w w'->ey 147 #[v] w' (gU w' (q (aq:Int)))
inductive lr (w:World):List Value->List Nat->Prop
 | nil:lr w [] []
 | cons {x:Value} {aq:Nat} {xs:List Value} {ds:List Nat}:zB w x aq->lr w xs ds->lr w (x::xs) (aq::ds)
def lr.len(h:lr w xs ds):xs.length=ds.length:=by
 induction h with
 | nil=>rfl
 | cons _ _ aH=>simp[aH]
def lr.get(h:lr w xs ds):∀(j:Nat) (h1:j<xs.length) (H:j<ds.length),zB w xs[j] ds[j]:=by
 induction h with
 | nil=>intro j h1;exact absurd h1 (fp _)
 | cons bb _ aH=>
  intro j h1 H;cases j with
  | zero=>exact bb
  | succ j=>exact aH j (by simpa using h1) (by simpa using H)
def lr.app{es:List Nat}(h1:lr w xs ds)(H:lr w ys es):lr w (xs++ys) (ds++es):=by
 induction h1 with
 | nil=>exact H
 | cons bb _ aH=>exact .cons bb aH
def zB.below{aq:Nat}(h:zB w v aq)(A:eB w J):zB J v aq:=fun w' bg=>h w' (A.trans (bg.mono A.size))
def lr.grow(h:lr w xs ds)(A:eB w J):lr J xs ds:=by
 induction h with
 | nil=>exact .nil
 | cons bb _ aH=>exact .cons (bb.below A) aH
def jK(ds:List Nat):Nat:=ds.foldr max 0
def G3(a b:List Nat):jK (a++b)=max (jK a) (jK b):=by
 induction a with
 | nil=>simp[jK]
 | cons x C aH=>show max x (jK (C++b))=max (max x (jK C)) (jK b);rw[aH];omega
def adC(ds:List Nat)(j:Nat)(h:j<ds.length):jK (ds.take (j+1))=max (jK (ds.take j)) ds[j]:=by rw[jD h,G3];simp[jK]
def x1(ds:List Nat)(j:Nat)(n:Int):Prop:=n=(jK (ds.take j):Int)
def x1.next{n:Int}(h:x1 ds j n)(aS:j<ds.length):x1 ds (j+1) (max n (ds[j]:Int)):=by unfold x1 at h ⊢;rw[adC ds j aS,h];omega
def x1.fin{n:Int}(h:x1 ds j n)(aS:¬j<ds.length):n=(jK ds:Int):=by unfold x1 at h;rwa [List.take_of_length_le r] at h
def eK.cell(h:eK w v xs)(i:Nat)(hi:i<xs.length):∃g af,v=.slice (some ⟨g,0,none⟩) xs.length af/\dp w g i=some xs[i]:=by
 rcases h.2 with⟨_,aw⟩ | ⟨g,af,ay,rfl,_⟩
 ·omega
 ·refine⟨g,af,rfl,?_⟩;have:=World.ownsRow.cells h rfl i xs[i] (fC hi);rwa [Addr.add_lit,ax1] at this
def St(c9:Value)(xs:List Value)(ds:List Nat)(w:World)(an:eK w c9 xs)(cq:lr w xs ds)(X:xs.length<=100000):ey 98 #[c9] w (gU w (q (jK ds:Int))):=by
 obtain⟨a,af,rfl⟩:=cG an;have fk:=u cq.len;go_enter func98,ntmps98;go_wp2_with fail;go_loopg [3,8] (xs.length+1) (fun U adD i wr=>∃(j:Nat) (n:Int),j<=xs.length/\adD=q n/\i=q j/\x1 ds j n/\eB w wr/\xs.length-j<U);case atStart=>exact⟨0,0,bu,rfl,rfl,rfl,Below.refl _ _,r⟩
 case round=>
  obtain⟨j,n,aS,rfl,rfl,hm,A,ae⟩:=hrel;by_cases aD:j<xs.length
  ·have cL:(j:Int)<(xs.length:Int):=r;obtain⟨g,cJ,hv,ai⟩:=eK.cell (ee an A) j aD;obtain⟨rfl,rfl⟩:a=some ⟨g,0,none⟩/\af=cJ:=by simpa using hv
   have bb:=cq.get j aD (by have:=fk.d;omega) wr A;have hT:=u (hm.next (by have:=fk.d;omega:j<ds.length));have fr:IntKind.i64.wrap ((j:Int)+1)=(j:Int)+1:=mC;have ch:=u ae;generalize xs[j]=x at *;generalize ds[j]=aq at *;clear hm ae hv;go_wp2_with fail;refine bb.mono ?_;rintro e S ⟨rfl,ah⟩;go_wp2_with fail;have ae:=ch.d;go_roundg (gk-1);case measure=>omega
   case rel=>exact⟨j+1,max n (aq:Int),r,by first | rfl | go_num,by go_num,hT.d,A.trans (ah.mono A.size),r⟩
  ·have cL:(xs.length:Int)<=(j:Int):=r;have DR:=hm.fin (by have:=fk.d;omega:¬j<ds.length);subst DR;clear hm ae;go_wp2_with fail;go_ret;exact⟨rfl,A⟩
def BB{ev sv wv gv hv:Value}(h:w.heap[b]?=some (.cells #[ev,sv,wv,gv,hv] 103 (0,0))):dp w b 2=some wv/\dp w b 4=some hv:=⟨Z h (i:=2) rfl,Z h (i:=4) rfl⟩
def BC(h:w.ownsRow base 101 1 v n xs)(ar:n=xs.length):eK w v xs:=by subst ar;exact ei bu h
def G4(p:Option Addr)(hv:w.ownsRow base 101 1 v n xs)(ar:n<=90000)(A:base<=w.heap.size):∃cF w',(∀ty,(Builtin.append_ #[99,99] ty #[v,.slice (some ⟨w.heap.size,0,none⟩) 1 1]).run prog (w.alloc (.cells #[.pointer p] 101))=.ok cF w')/\w'.ownsRow base 101 1 cF (n+1) (xs++[.pointer p])/\Below base w w':=by have hu:(w.alloc (.cells #[.pointer p] 101)).ownsRow 0 101 1 (.slice (some ⟨w.heap.size,0,none⟩) 1 1) 1 [.pointer p]:=⟨rfl,.inr ⟨w.heap.size,1,#[.pointer p],rfl,bu,bH w _,ap,by unfold maxLen;omega,rfl,rfl⟩⟩;obtain⟨cF,w',h1,H,ab⟩:=GZ (hv.alloc _) hu (by simp[Value.oneCell']) r (by rw[cc];omega);exact⟨cF,w',h1,H,((Below.refl base w).alloc A _).grown ab (by rw[cc];omega) (fun k e=>(hv.lt k e).1)⟩
def Lp(b:Nat)(ev sv gv wv hv:Value)(es gs ws hs:List Value)(w:World)(A:w.heap[b]?=some (.cells #[ev,sv,wv,gv,hv] 103 (0,0)))(he:eK w ev es)(R:eK w gv gs)(x2:∀y∈es,y.oneCell'=true)(sx:∀y∈gs,y.oneCell'=true)(h1:1<=es.length)(X:es.length+gs.length<=10000)(hw:wv=.pointer none/\ws=[]\/∃k,wv=.pointer (some k)/\ws=[.pointer (some k)])(cf:hv=.pointer none/\hs=[]\/∃k,hv=.pointer (some k)/\hs=[.pointer (some k)]):ey 99 #[M b] w fun e w'=>∃v,e=.returned v/\eK w' v (es++gs++ws++hs)/\eB w w':=by
 obtain⟨bq,c1,rfl⟩:=cG he;obtain⟨a2,c2,rfl⟩:=cG R;have d0:dp w b 0=some (.slice bq es.length c1):=Z A (i:=0) rfl;have d2:dp w b 2=some (wv):=Z A (i:=2) rfl;have d3:dp w b 3=some (.slice a2 gs.length c2):=Z A (i:=3) rfl;have d4:dp w b 4=some (hv):=Z A (i:=4) rfl;have adE:=u x2;have adF:=u sx;have b4:=u hw;have cx:=u cf;clear x2 sx hw cf;go_enter func99,ntmps99;go_wp2_with fail;have zC:eB w (w.alloc (.cells #[.slice bq es.length c1,.slice a2 gs.length c2] 99)).drew:=((Below.refl _ w).alloc ap _).drew;have tM:=adu w.heap.size _ _ es gs _ (show(w.alloc (.cells #[.slice bq es.length c1,.slice a2 gs.length c2] 99)).drew.heap[w.heap.size]?=_ from bH w _) (ee he zC) (ee R zC) adE.d adF.d h1 X;have aN:=u tM;clear tM
 go_region_law (go_simp;go_at_call 148;refine aN.d.mono ?_;rintro e S ⟨v,rfl,ej,ah⟩);all_goals
  have cg:eB w S:=zC.trans (ah.mono (by have:=zC.size;omega));have z2:=ah.size;have cY:b<w.heap.size:=(br A).1;have xH:=(cg.block b cY).trans A;rcases b4.d with⟨rfl,rfl⟩ | ⟨k,rfl,rfl⟩
  ·rcases cx.d with⟨rfl,rfl⟩ | ⟨aZ,rfl,rfl⟩
   ·obtain⟨am,hq⟩:=BB xH;clear aN d0 d2 d3 d4;go_wp2_with fail;go_ret;exact⟨v,rfl,by have ar:=BC ej (by simp only[cu]);simpa using ar,cg⟩
   ·obtain⟨v3,aA,ir,ie,G5⟩:=G4 (some aZ) ej r z2;obtain⟨am,hq⟩:=BB xH;clear aN d0 d2 d3 d4;go_wp2_with (at_builtin;refine Lib.wpList_append_run _ rfl _ _ _ _ rfl _ _ rfl rfl _ _ (ir _) ?_);go_ret;exact⟨v3,rfl,by have ar:=BC ie (by simp only[cu,di,List.length_nil]);simpa using ar,cg.trans (G5.mono (by have:=zC.size;omega))⟩
  ·obtain⟨v3,aA,ir,ie,G5⟩:=G4 (some k) ej r z2;have lM:eB w aA:=cg.trans (G5.mono (by have:=zC.size;omega));have z3:=G5.size;have zo:aA.heap[b]?=some (.cells #[.slice bq es.length c1,sv,.pointer (some k),.slice a2 gs.length c2,hv] 103 (0,0)):=(lM.block b cY).trans A;rcases cx.d with⟨rfl,rfl⟩ | ⟨aZ,rfl,rfl⟩
   ·obtain⟨am,hq⟩:=BB xH;obtain⟨f2,f4⟩:=BB zo;clear aN d0 d2 d3 d4;go_wp2_with (at_builtin;refine Lib.wpList_append_run _ rfl _ _ _ _ rfl _ _ rfl rfl _ _ (ir _) ?_);go_ret;exact⟨v3,rfl,by have ar:=BC ie (by simp only[cu,di,List.length_nil]);simpa using ar,lM⟩
   ·obtain⟨v5,bh,qA,jI,adG⟩:=G4 (some aZ) ie r r;obtain⟨am,hq⟩:=BB xH;obtain⟨f2,f4⟩:=BB zo;clear aN d0 d2 d3 d4;go_upto_region 5 with(at_builtin;refine Lib.wpList_append_run _ rfl _ _ _ _ rfl _ _ rfl rfl _ _ (ir _) ?_);clear ir ej ie;go_wp2_with (at_builtin;refine Lib.wpList_append_run _ rfl _ _ _ _ rfl _ _ rfl rfl _ _ (qA _) ?_);go_ret;exact⟨v5,rfl,by have ar:=BC jI (by simp only[cu,di,List.length_nil]);simpa using ar,lM.trans (adG.mono (by have:=zC.size;omega))⟩
def Su(w:World)(v:Value)(aq:Nat):Prop:=∀w':World,eB w w'->ey 65 #[v] w' (gU w' (q (aq:Int)))
def adH(b:Nat)(bk c1 c2 dZ gp fO o5 nw rx co:Value)(xs:List Value)(ds:List Nat)(w:World)(A:w.heap[b]?=some (.cells #[bk,c1,c2,dZ,gp,fO,co,.pointer none,o5,nw,rx] 247 (0,0)))(an:eK w co xs)(cq:lr w xs ds)(X:xs.length<=100000)(bb:jK ds<=100000):ey 147 #[M b] w (gU w (q ((1+jK ds:Nat):Int))):=by
 obtain⟨bq,c,rfl⟩:=cG an;have d6:dp w b 6=some (.slice bq xs.length c):=Z A (i:=6) rfl;have d7:dp w b 7=some (.pointer none):=Z A (i:=7) rfl;have tM:=St _ xs ds w an cq X;have fr:IntKind.i64.wrap (1+(jK ds:Int))=1+(jK ds:Int):=mC;have aN:=u tM;clear tM A cq;generalize jK ds=m at *;go_enter func147,ntmps147;go_wp2_with (go_at_call 98;refine aN.d.mono ?_;rintro e S ⟨rfl,ah⟩);go_ret;exact⟨by first | rfl | go_num,ah⟩
def adI(b:Nat)(bk c1 c2 dZ gp fO o5 nw rx co:Value)(k:Addr)(aq:Nat)(w:World)(A:w.heap[b]?=some (.cells #[bk,c1,c2,dZ,gp,fO,co,.pointer (some k),o5,nw,rx] 247 (0,0)))(ae:Su w (.pointer (some k)) aq)(bb:aq<=100000):ey 147 #[M b] w (gU w (q ((1+aq:Nat):Int))):=by have d7:dp w b 7=some (.pointer (some k)):=Z A (i:=7) rfl;have tM:=ae w (Below.refl _ _);have fr:IntKind.i64.wrap (1+(aq:Int))=1+(aq:Int):=mC;have aN:=u tM;clear tM A ae;go_enter func147,ntmps147;go_wp2_with (go_at_call 65;refine aN.d.mono ?_;rintro e S ⟨rfl,ah⟩);go_ret;exact⟨by first | rfl | go_num,ah⟩
def adJ(b:Nat)(ev sv gv wv hv:Value)(es gs ws hs:List Value)(nR r6 uH z8:List Nat)(w:World)(A:w.heap[b]?=some (.cells #[ev,sv,wv,gv,hv] 103 (0,0)))(he:eK w ev es)(R:eK w gv gs)(x2:∀y∈es,y.oneCell'=true)(sx:∀y∈gs,y.oneCell'=true)(h1:1<=es.length)(X:es.length+gs.length<=10000)(hw:wv=.pointer none/\ws=[]\/∃k,wv=.pointer (some k)/\ws=[.pointer (some k)])(cf:hv=.pointer none/\hs=[]\/∃k,hv=.pointer (some k)/\hs=[.pointer (some k)])(G6:lr w es nR)(ao:lr w gs r6)(G7:lr w ws uH)(G8:lr w hs z8)(bb:jK (nR++r6++uH++z8)<=100000):ey 65 #[M b] w (gU w (q ((1+jK (nR++r6++uH++z8):Nat):Int))):=by
 have tM:=Lp b ev sv gv wv hv es gs ws hs w A he R x2 sx h1 X hw cf;have cq:lr w (es++gs++ws++hs) (nR++r6++uH++z8):=((G6.app ao).app G7).app G8;have qB:(es++gs++ws++hs).length<=100000:=by
  simp only[cu];have:ws.length<=1:=by rcases hw with⟨_,rfl⟩ | ⟨_,_,rfl⟩<;>simp
  have:hs.length<=1:=by rcases cf with⟨_,rfl⟩ | ⟨_,_,rfl⟩<;>simp
  omega
 have fr:IntKind.i64.wrap (1+(jK (nR++r6++uH++z8):Int))=1+(jK (nR++r6++uH++z8):Int):=mC;generalize es++gs++ws++hs=xs at *;generalize nR++r6++uH++z8=ds at *;have Sv:=fun (v:Value) (S:World) (ag:eK S v xs) (ah:eB w S)=>St v xs ds S ag (cq.grow ah) qB;have aN:=u tM;have fG:=u Sv;clear tM Sv A cq hw cf x2 sx G6 ao G7 G8 he R qB;generalize jK ds=m at *;go_enter func65,ntmps65;go_wp2_with (first | (go_at_call 99;refine aN.d.mono ?_;rintro e S ⟨v,rfl,eN,ah⟩) | (go_at_call 98;refine(fG.d _ _ eN ah).mono ?_;rintro e aA ⟨rfl,cg⟩));go_ret;exact⟨by first | rfl | go_num,ah.trans (cg.mono ah.size)⟩
def Sw(w:World)(tag:Nat)(t:aL)(vs:List Value):Prop:=match tag with
 | 0=>∃k,vs=[.pointer (some k)]/\zB w (.pointer (some k)) (dep t)
 | 1=>∃ds,lr w vs ds/\jK ds=dep t/\vs.length=dH t/\∀y∈vs,y.oneCell'=true
 | 2=>∃k,vs=[.pointer (some k)]/\Su w (.pointer (some k)) (dep t)
 | _=>(vs=[]/\dep t=0)\/∃k,vs=[.pointer (some k)]/\zB w (.pointer (some k)) (dep t)
def Sx{vs:List Value}(h:Sw w 3 t vs):(∃ds,lr w vs ds/\jK ds=dep t)/\(jj vs=.pointer none/\vs=[]\/∃k,jj vs=.pointer (some k)/\vs=[.pointer (some k)]):=by
 rcases h with⟨rfl,aw⟩ | ⟨k,rfl,bb⟩
 ·exact⟨⟨[],.nil,by rw[aw];rfl⟩,.inl ⟨rfl,rfl⟩⟩
 ·exact⟨⟨[dep t],.cons bb .nil,by simp[jK]⟩,.inr ⟨k,rfl,rfl⟩⟩
def Lq{lo:Nat}(h:eB w w'):iB lo w w':=fun k _ aD=>h.block k aD
def Sy{N:Nat}(cS:N<=5000){tag:Nat}(tN:fQ N tag t):∀(w:World) (lo hi:Nat) (vs:List Value),df w lo hi t vs->dep t<=100000->Sw w tag t vs:=by
 induction tN with
 | @node k s n v p aj arL aH=>
  intro w lo hi vs iU bb;cases iU with
  | @node _ l1 m h1 _ b _ _ _ _ _ _ co vs qs _ _ _ eI ah kz Sz SA hblk an tO ow=>
   cases ow;have Cz:dep (.node k s n v p .nil)=1+dep p:=by rw[dep]
   obtain⟨ds,cq,hm,b7,h1⟩:=aH w l1 m vs tO r;refine⟨_,rfl,fun w' bg=>?_⟩;rw[Cz,<-hm];exact adH b _ _ _ _ _ _ _ _ _ co vs ds w' ((bg.block b (br hblk).1).trans hblk) (ei bu (ee an bg)) (cq.grow bg) r r
 | @Sn k s n v e g wh h l ae aH=>
  intro w lo hi vs iU bb;cases iU with
  | @node _ l1 m h1 _ b _ _ _ _ _ _ co vs qs _ _ _ eI ah kz Sz SA hblk an tO ow=>
   have Cz:dep (.node k s n v .nil (.query e l wh g h))=1+dep (.query e l wh g h):=by rw[dep];intro h;cases h
   obtain⟨aZ,rfl,x3⟩:=aH w m h1 qs ow r;refine⟨_,rfl,fun w' bg=>?_⟩;rw[Cz];exact adI b _ _ _ _ _ _ _ _ _ co aZ _ w' ((bg.block b (br hblk).1).trans hblk) (fun S ah=>x3 S (bg.trans (ah.mono bg.size))) r
 | nil=>intro w lo hi vs iU bb;cases iU;exact⟨[],.nil,rfl,rfl,by simp⟩
 | @cons h t cf au adK adL=>
  intro w lo hi vs iU bb;cases iU with
  | @cons _ m _ _ _ v vs cn i2=>
   have e:dep (.cons h t)=max (dep h) (dep t):=by rw[dep]
   obtain⟨k,Y,o6⟩:=adK w lo m [v] cn r;obtain rfl:=List.head_eq_of_cons_eq Y;obtain⟨ds,cq,hm,b7,h1⟩:=adL w m hi vs i2 r;refine⟨dep h::ds,.cons o6 cq,?_,?_,?_⟩
   ·show max (dep h) (jK ds)=_;rw[hm,e]
   ·show vs.length+1=dH t+1;rw[b7]
   ·intro y hy;rcases List.mem_cons.1 hy with rfl | hy
    ·rfl
    ·exact h1 y hy
 | @query c7 Y g wh h l he R hw cf hle RS adM adN adO aH=>
  intro w lo hi vs iU bb;cases iU with
  | @query _ l1 m1 m2 m3 h1 _ b _ _ _ _ _ ev sv gv es ws gs hs eI ah kz Sz SA hblk tP G9 adP cn i2 i3 i4=>
   have e:dep (.query (.cons c7 Y) l wh g h)=1+max (dep (.cons c7 Y)) (max (dep g) (max (dep wh) (dep h))):=by conv=>{lhs;rw[dep]}
   obtain⟨nR,G6,adQ,SB,adR⟩:=adM w l1 m1 es cn r;obtain⟨r6,ao,adS,arM,adT⟩:=adN w m2 m3 gs i3 r;obtain⟨⟨uH,G7,wm⟩,adU⟩:=Sx (adO w m1 m2 ws i2 r);obtain⟨⟨z8,G8,adV⟩,adW⟩:=Sx (aH w m3 h1 hs i4 r);have em:jK (nR++r6++uH++z8)=max (dep (.cons c7 Y)) (max (dep g) (max (dep wh) (dep h))):=by rw[G3,G3,G3,adQ,adS,wm,adV];omega
   have adX:1<=es.length:=by rw[SB];show 1<=dH Y+1;omega
   refine⟨_,rfl,fun w' bg=>?_⟩;rw[e,<-em];exact adJ b ev sv gv _ _ es gs ws hs nR r6 uH z8 w' ((bg.block b (br hblk).1).trans hblk) (ei bu (ee tP bg)) (ei bu (ee adP bg)) adR adT adX r adU adW (G6.grow bg) (ao.grow bg) (G7.grow bg) (G8.grow bg) r
 | none=>intro w lo hi vs iU bb;cases iU;exact .inl ⟨rfl,rfl⟩
 | some _ aH=>intro w lo hi vs iU bb;exact .inr (aH w lo hi vs iU bb)
def o7(b:Nat)(w w':World):Prop:=∀k cs T,k≠b->T≠5->w.heap[k]?=some (.cells cs T (0,0))->w'.heap[k]?=some (.cells cs T (0,0))
def o7.trans{S aA:World}(h1:o7 b J S)(H:o7 b S aA):o7 b J aA:=fun k cs T hk bi h=>H k cs T hk bi (h1 k cs T hk bi h)
def o7.refl(b:Nat)(w:World):o7 b w w:=fun _ _ _ _ _ h=>h
def Lr(b o:Nat)(w:World)(x:Value):o7 b w (w.setCell ⟨b,o,none⟩ x):=fun k _ _ hk _ h=>(Below.heap_setCell _ _ _ k (by show k≠b;exact hk)).trans h
def adY(b:Nat)(w:World)(o:Obj):o7 b w (w.alloc o):=fun k _ _ _ _ h=>(Below.heap_alloc w o k (br h).1).trans h
def SC(fs:w.ownsRow bB 5 1 v n xs)(R:w.grownBy w' v.ownBlock):o7 b w w':=by
 intro k cs T hk bi h;refine(R.block k (br h).1 ?_).trans h;intro e;rcases fs.2 with⟨rfl,_⟩ | ⟨g,af,ay,rfl,_,ed,_⟩
 ·simp[Value.ownBlock] at e
 ·simp[Value.ownBlock] at e;subst e;rw[h] at ed;simp at ed;exact bi ed.2
def SD(bB b:Nat)(bs:List Value)(w:World)(h:Lib.IsBuilder 304 5 bB b bs w):ey 278 #[M b] w fun e w'=>e=.returned (.tuple #[])/\Lib.BuilderAt 304 5 bB b (M b) bs w'/\Below bB w w'/\o7 b w w':=by
 obtain⟨j,aS,q5⟩:=Option.map_eq_some_iff.1 Tryz.Dd.sizeBuilder;rcases h with h | h
 ·have bk:=h.cell0;have c1:=h.shape;have c2:=h.frozen0;have q1:=Lib.run_to_unsafe w ⟨b,0,none⟩ underlying302 underlying347 aS (by rw[q5];decide) c1 (Nat.zero_lt_succ 1);have bN:=Lib.run_from_unsafe w ⟨b,0,none⟩ underlying347 underlying302 aS c1 Tryz.Dd.liesBuilder;go_enter func278,ntmps278;go_wp2;rw[run_callFunc_extern func293 ax ax ax (e:=Extern.AbiNoEscape.same) ax];rw[Lib.run_noEscape];simp only[Result.andThen];rw[Oper.upon_value];go_wp2;go_end0;exact⟨rfl,h.used _,(Below.refl bB w).setCell (p:=⟨b,0,none⟩) h.1 _,Lr _ _ _ _⟩
 ·have bk:=h.cell0;have U:=Lib.run_neq_ptr_same w ⟨b,0,none⟩ underlying302 aS;go_enter func278,ntmps278;go_wp2;go_end0;exact⟨rfl,h,Below.refl bB _,o7.refl _ _⟩
def SE:(prog.info? 5).map (fun i=>(i.zero,i.size,i.bytes))=some (some (.int .u8 0),1,1):=ax
def SF(bB b:Nat)(bs:List Value)(c:Int)(w:World)(h:Lib.IsBuilder 304 5 bB b bs w)(b7:bs.length<=1000000000)(Kd:bB<=w.heap.size):ey 238 #[M b,.int .u8 c] w fun e w'=>e=.returned .nilIface/\Lib.BuilderAt 304 5 bB b (M b) (bs++[.int .u8 c]) w'/\Below bB w w'/\o7 b w w':=by
 obtain⟨i0,hi,gj,gx,cd⟩:=info_parts SE;go_enter func238,ntmps238;go_wp2_with (go_at_call 278;refine(SD bB b bs _ h).mono ?_);rintro e J ⟨rfl,h1,bJ,bZ⟩;obtain⟨bw,v,jL,fs,cy⟩:=h1;have b3:=bJ.size;have bk:dp J b 0=some (M b):=Z jL (i:=0) rfl;have c1:dp J b 1=some v:=Z jL (i:=1) rfl;go_wp2_with (at_builtin;refine wpList_append_own _ rfl _ _ 72 rfl bB 5 i0 (.int .u8 0) 1 1 underlying72 hi gj gx cd rfl K _ _ _ rfl (fs.alloc _) ⟨J.heap.size,0,none⟩ 1 1 [.int .u8 c] rfl rfl (World.news_of_block (cs:=#[.int .u8 c]) (bH J _)) (by simp[Value.oneCell']) (by unfold maxLen;omega) r (by simp;omega) ?_);intro cF S x4 wo _;have aD:b<J.heap.size:=(br jL).1;have ah:S.heap[b]?=some (.cells #[M b,v] 304 (0,0)):=by
  rw[wo.block b (by simp;omega) (fun e=>cy e.symm),Below.heap_alloc J _ b aD];exact jL
 have d0:dp S b 0=some (M b):=Z ah (i:=0) rfl;have d1:dp S b 1=some v:=Z ah (i:=1) rfl;have f1:S.frozen? ⟨b,1,none⟩=false:=aQ ah;obtain⟨g,af,rfl⟩:∃g af,cF=.slice (some ⟨g,0,none⟩) (bs.length+1) af:=by
  rcases x4.2 with⟨_,aw⟩ | ⟨g,af,ay,hv,_⟩
  ·omega
  ·exact⟨g,af,hv⟩
 go_wp2;go_ret;refine⟨rfl,?_,?_,?_⟩
 ·exact Lib.BuilderAt.put (T:=304) (e:=5) bw ah (bs':=bs++[.int .u8 c]) (by simpa using x4) Tryz.Dd.neB5
 ·exact((bJ.alloc r _).grown wo (by simp;omega) (fun k hk=>(fs.lt k hk).1)).setCell (p:=⟨b,1,none⟩) bw _
 ·exact((bZ.trans (adY _ _ _)).trans (SC (fs.alloc _) wo)).trans (Lr _ _ _ _)
def SG(bB b:Nat)(bs:List Value)(s:e6)(w:World)(h:Lib.IsBuilder 304 5 bB b bs w)(b7:bs.length+s.size<=1000000000)(Kd:bB<=w.heap.size):ey 237 #[M b,.string s] w fun e w'=>e=.returned (.tuple #[q s.size,.nilIface])/\Lib.BuilderAt 304 5 bB b (M b) (bs++Lib.strCells s) w'/\Below bB w w'/\o7 b w w':=by
 obtain⟨i0,hi,gj,gx,cd⟩:=info_parts SE;go_enter func237,ntmps237;go_wp2_with (go_at_call 278;refine(SD bB b bs _ h).mono ?_);rintro e J ⟨rfl,h1,bJ,bZ⟩;obtain⟨bw,v,jL,fs,cy⟩:=h1;have b3:=bJ.size;have bk:dp J b 0=some (M b):=Z jL (i:=0) rfl;have c1:dp J b 1=some v:=Z jL (i:=1) rfl;go_wp2_with (at_builtin;refine Lib.wpList_append_own_string _ rfl _ _ 72 9 rfl bB 5 i0 underlying72 underlying9 hi gj gx cd _ _ _ rfl fs s rfl (by unfold maxLen;omega) r r ?_);intro cF S x4 wo _;have aD:b<J.heap.size:=(br jL).1;have ah:S.heap[b]?=some (.cells #[M b,v] 304 (0,0)):=(wo.block b aD (fun e=>cy e.symm)).trans jL;have d0:dp S b 0=some (M b):=Z ah (i:=0) rfl;have d1:dp S b 1=some v:=Z ah (i:=1) rfl
 have f1:S.frozen? ⟨b,1,none⟩=false:=aQ ah;obtain⟨SH,iG,af,rfl⟩:∃SH iG af,cF=.slice SH iG af:=by
  rcases x4.2 with⟨hv,_⟩ | ⟨g,af,ay,hv,_⟩
  ·exact⟨_,_,_,hv⟩
  ·exact⟨_,_,_,hv⟩
 go_wp2;go_ret2;refine⟨rfl,?_,?_,?_⟩
 ·exact Lib.BuilderAt.put (T:=304) (e:=5) bw ah (bs':=bs++Lib.strCells s) (by simpa [Lib.strCells_length] using x4) Tryz.Dd.neB5
 ·exact(bJ.grown wo r (fun k hk=>(fs.lt k hk).1)).setCell (p:=⟨b,1,none⟩) bw _
 ·exact(bZ.trans (SC fs wo)).trans (Lr _ _ _ _)
def Ls{bs:List Value}(h:Lib.IsBuilder 304 5 bB b bs w)(A:eB w w'):Lib.IsBuilder 304 5 bB b bs w':=by
 rcases h with⟨bw,v,h1,H,ab⟩ | ⟨bw,v,h1,H,ab⟩
 ·exact .inl ⟨bw,v,(A.block b (br h1).1).trans h1,ee H A,ab⟩
 ·exact .inr ⟨bw,v,(A.block b (br h1).1).trans h1,ee H A,ab⟩
def SK(x:Int)(w:World):ey 190 #[q x] w (ov w (.bool false)):=by go_enter func190,ntmps190;go_wp2;go_ret;exact⟨rfl,rfl⟩
def SL(x:Int)(w:World):ey 191 #[q x] w (ov w (.bool false)):=by go_enter func191,ntmps191;go_wp2;go_ret;exact⟨rfl,rfl⟩
def ad6(x y:Int)(w:World):ey 127 #[q x,q y] w (ov w (q (Lib.compareInt x y))):=by
 have eW:=u (SK x w);have iH:=u (SK y w);go_enter func127,ntmps127;go_upto_region 2 with(go_at_call 190;refine eW.d.mono ?_;rintro e J ⟨rfl,rfl⟩);go_wp2_with (go_at_call 190;refine iH.d.mono ?_;rintro e J ⟨rfl,rfl⟩);all_goals go_ret
 all_goals (refine⟨?_,rfl⟩;unfold Lib.compareInt)
 ·rw[if_pos r];rfl
 ·rw[if_neg r,if_pos r];rfl
 ·rw[if_neg r,if_neg r];rfl
def ad7(x y:Int)(w:World):ey 128 #[q x,q y] w (ov w (q (Lib.compareInt x y))):=by
 have eW:=u (SL x w);have iH:=u (SL y w);go_enter func128,ntmps128;go_upto_region 2 with(go_at_call 191;refine eW.d.mono ?_;rintro e J ⟨rfl,rfl⟩);go_wp2_with (go_at_call 191;refine iH.d.mono ?_;rintro e J ⟨rfl,rfl⟩);all_goals go_ret
 all_goals (refine⟨?_,rfl⟩;unfold Lib.compareInt)
 ·rw[if_pos r];rfl
 ·rw[if_neg r,if_pos r];rfl
 ·rw[if_neg r,if_neg r];rfl
def j5:List Int->Int
 | []=>0
 | x::C=>if x=0 then j5 C else x
def SM{zs:List Int}(h:∀i (hi:i<zs.length),i<j->zs[i]=0):j5 zs=j5 (zs.drop j):=by
 induction j generalizing zs with
 | zero=>rfl
 | succ j aH=>
  match zs,h with
  | [],_=>rfl
  | x::C,h=>have aa:x=0:=h 0 (by simp) r;have ag:=aH (zs:=C) (fun i hi aS=>h (i+1) (by simp;omega) r);rw[j5,if_pos aa,List.drop_succ_cons,ag]
def Lt(zs:List Int)(g af:Nat)(w:World)(ar:zs.length<=1000)(ai:∀i (h:i<zs.length),dp w g i=some (q zs[i])):ey 77 #[.slice (some ⟨g,0,none⟩) zs.length af] w (ov w (q (j5 zs))):=by
 have aN:=u ai;clear ai;go_enter func77,ntmps77;go_wp2_with fail;go_loopg [8] (zs.length+1) (fun U i wr=>∃(j:Nat),j<=zs.length/\i=q (j:Int)/\Hid (∀i (hi:i<zs.length),i<j->zs[i]=0)/\w=wr/\zs.length-j<U);case atStart=>exact⟨0,bu,rfl,u (fun _ _ h=>absurd h (fp _)),rfl,r⟩
 case round=>
  obtain⟨j,aS,rfl,aY,rfl,ae⟩:=hrel;by_cases aD:j<zs.length
  ·have cL:(j:Int)<(zs.length:Int):=r;have c1:=aN.d j aD;have fr:IntKind.i64.wrap ((j:Int)+1)=(j:Int)+1:=mC;have fb:Hid (j5 zs=if zs[j]=0 then j5 (zs.drop (j+1)) else zs[j]):=u (by
    rw[SM aY.d,List.drop_eq_getElem_cons aD,j5])
   have Df:Hid (zs[j]=0->∀i (hi:i<zs.length),i<j+1->zs[i]=0):=u (fun h i hi tQ=>by
    by_cases e:i=j
    ·subst e;exact h
    ·exact aY.d i hi r)
   have ch:=u ae;clear ae;generalize zs[j]=z at *;by_cases aw:z=0
   ·subst aw;go_wp2_with fail;have ae:=ch.d;go_roundg (zs.length-j);case measure=>omega
    case rel=>exact⟨j+1,r,by go_num,u (Df.d (by simp)),rfl,r⟩
   ·have A:(z != 0)=true:=by simpa using aw
    go_wp2_with fail;go_ret;exact⟨by rw[fb.d,if_neg aw];rfl,rfl⟩
  ·have cL:(zs.length:Int)<=(j:Int):=r;have fb:Hid (j5 zs=0):=u (by rw[SM aY.d,List.drop_eq_nil_of_le r];rfl);clear ae;go_wp2_with fail;go_ret;exact⟨by rw[fb.d];rfl,rfl⟩
