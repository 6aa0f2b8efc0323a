import Derived.Test.YtjebdgbpopolkaaGreatDoorM002
import Derived.Test.YtjebdgbpopolkaaGreatDoorM003
import Derived.BigQuiet
import Derived.Deep.AppendLies
import Derived.Deep.DrawnRows
import Derived.Deep.RegionLaw
import Derived.Deep.DeepCutAuto
import Derived.Deep.CutBlock
set_option maxHeartbeats 0
set_option maxRecDepth 100000
set_option linter.all false
namespace Go.Proofs.YtjebdgbpopolkaaGreatDoor
open Tryz
open Go.RowKit
open bS
variable{w w':World}{b hi fM k lo nJ m n size:Nat}{s:e6}{v x:Value}{vs xs:List Value}{e:TypeId}{t:aL}{c0:Nat->Prop}
def eA(w:World)(b:Nat)(s:e6)(k:Nat)(v:Value):Prop:=w.heap[b]?=some (.cells #[.string s,q (k:Int),v] 232 (0,0))
def eA.lt(h:eA w b s k v):b<w.heap.size:=by
 rcases Nat.lt_or_ge b w.heap.size with cC | cC
 ·exact cC
 ·rw[eA,Array.getElem?_eq_none cC] at h;cases h
def eA.cells(h:eA w b s k v):dp w b 0=some (.string s)/\dp w b 1=some (q (k:Int))/\dp w b 2=some v:=by rw[eA] at h;simp[World.cell?,h]
def eA.free(h:eA w b s k v)(o:Nat):w.frozen? ⟨b,o,none⟩=false:=by rw[eA] at h;simp[World.frozen?,h]
def eA.Da(h:eA w b s k v)(U:Nat):eA (w.setCell ⟨b,1,none⟩ (q (U:Int))) b s U v:=heap_setCell h _
def eA.A5(h:eA w b s k v)(cF:Value):eA (w.setCell ⟨b,2,none⟩ cF) b s k cF:=heap_setCell h _
def eA.alloc{w:World}{b:Nat}{s:e6}{k:Nat}{v:Value}(h:eA w b s k v)(o:Obj):eA (w.alloc o) b s k v:=(Below.heap_alloc w o b h.lt).trans h
def Qi(b:Nat)(s:e6)(k:Nat)(v:Value)(w:World)(h:eA w b s k v)(hs:s.size<=1000000)(hk:k<=s.size):ey 143 #[M b] w fun e w'=>e=.returned (.tuple #[])/\eA w' b s (cR oU s k) v/\w.grownBy w' (some b):=by
 generalize eU:cR oU s k=E;have bK:=u eU;clear eU;go_enter func143,ntmps143;go_wp2_with fail;go_loopg [] (s.size+1-k) (fun n wr=>∃j:Nat,j<=s.size/\eA wr b s j v/\w.grownBy wr (some b)/\Hid (cR oU s j=E)/\s.size-j<n);case atStart=>exact⟨k,hk,h,uQ _ _,bK,r⟩
 case round=>
  obtain⟨j,aS,ta,R,dP,ar⟩:=hrel;obtain⟨bk,c1,c2⟩:=ta.cells;have oV:=ta.free 1;by_cases q5:j<s.size
  ·have ZN:(j:Int)<(s.size:Int):=r;cases mD:oU s[j]
   ·have bj:Hid (E=j):=u (dP.d.symm.trans (C7 _ _ _ q5 mD));have y4:((s[j].toNat:Int)==32)=false:=by simp[oU,<-UInt8.toNat_inj] at mD;simp;omega
    clear mD dP bK ar;go_wp2_with fail;go_quiet (fail);go_wp2_with fail;go_end0;exact⟨rfl,by rw[bj.d];exact ta,R.trans (q6 _ _ _)⟩
   ·have bj:Hid (cR oU s (j+1)=E):=u ((yW _ _ _ q5 mD).symm.trans dP.d);have y4:((s[j].toNat:Int)==32)=true:=by simp[oU,<-UInt8.toNat_inj] at mD;simp;omega
    have bn:=u ar;clear mD dP bK ar;go_wp2_with fail;go_quiet (fail);go_wp2_with fail;have ar:=bn.d;go_roundg (gk-1);case measure=>omega
    case rel=>exact⟨j+1,r,(show eA (wr.drewN nq) b s j v from ta).Da (j+1),(R.trans (q6 _ _ _)).trans (Gh _ _ _ _),bj,r⟩
  ·have ZN:(s.size:Int)<=(j:Int):=r;have bj:Hid (E=j):=u (dP.d.symm.trans (Gf _ _ _ q5));clear dP bK ar;go_wp2_with fail;go_quiet (fail);go_wp2_with fail;go_end0;exact⟨rfl,by rw[bj.d];exact ta,R.trans (q6 _ _ _)⟩
def gn(ts:e4):List Value:=ts.flatMap fun t=>[q (dD t:Int),.string t]
def ZO:(prog.info? 237).map (fun i=>(i.zero,i.size,i.bytes))=some (some (.agg #[q 0,.string ⟨#[]⟩]),2,24):=ax
def J9(w:World)(a b:Value)(t:TypeId):∀j bp,([a,b]:List Value)[j]?=some bp->(w.alloc (.cells #[a,b] t)).cell? ((⟨w.heap.size,0,none⟩:Addr).add j)=some bp:=World.news_of_block (cs:=#[a,b]) (bH w _)
def eA.grown(h:eA w b s k v)(an:w.ownsRow lo 237 2 x n xs)(R:w.grownBy w' x.ownBlock):eA w' b s k v:=by
 refine(R.block b h.lt ?_).trans h;intro bo;rcases an.2 with⟨rfl,_⟩ | ⟨g,af,ay,rfl,_,ed,_⟩
 ·simp[Value.ownBlock] at bo
 ·obtain rfl:b=g:=by simpa [Value.ownBlock] using bo
  have:=(show w.heap[b]?=_ from h).symm.trans ed;simp at this
def vO{base c i:Nat}{t:TypeId}{bp:Value}{cs:Array Value}(h:w.ownsRow base e size x n xs)(ai:w.heap[c]?=some (.cells cs t (0,0)))(au:t≠e):(w.setCell ⟨c,i,none⟩ bp).ownsRow base e size x n xs:=by
 refine ownsRow_setCell_other h ?_ bp;rcases h.2 with⟨rfl,_⟩ | ⟨g,af,ay,rfl,_,ed,_⟩
 ·simp[Value.ownBlock]
 ·intro bo;obtain rfl:g=c:=by simpa [Value.ownBlock] using bo
  rw[ai] at ed;simp at ed;exact au ed.2
def ZP(an:w.ownsRow lo e size x n xs)(X:lo<=w.heap.size)(R:w.grownBy w' x.ownBlock):Below lo w w':=⟨R.os,R.tape,R.output,R.size,fun k hk=>R.block k r (fun bo=>by have:=(an.lt k bo.symm).1;omega)⟩
def Ka(lo b:Nat)(s:e6)(k e:Nat)(fX:Int)(v:Value)(n:Nat)(xs:List Value)(w:World)(h:eA w b s k v)(an:w.ownsRow lo 237 2 v n xs)(eI:lo<=b)(ar:n<=1000000)(ari:s.size<=1000000)(hk:k<=e)(he:e<=s.size):ey 213 #[M b,q fX,q (e:Int)] w fun x w'=>x=.returned (.bool (fX != 0))/\(∃cF,eA w' b s e cF/\w'.ownsRow lo 237 2 cF (n+1) (xs++[q fX,.string (s.extract k e)]))/\Below lo w w':=by
 obtain⟨i0,hi,gj,gx,cd⟩:=info_parts ZO;obtain⟨bk,c1,c2⟩:=h.cells;have oV:=h.free 1;have tb:=h.free 2;have cY:=h.lt;go_enter func213,ntmps213;go_wp2_with fail;go_region_law (refine step_append_lies _ (by rfl) _ _ 145 (by rfl) lo 237 i0 (.agg #[q 0,.string ⟨#[]⟩]) 2 24 underlying145 hi gj gx cd rfl K v n xs (by rfl) (an.alloc _) ⟨w.heap.size,0,none⟩ 1 1 [q fX,.string (s.extract k e)] (by rfl) (by rfl) (J9 _ _ _ _) (by simp[Value.oneCell']) K (by unfold maxLen;omega) r (by simp;omega) (w.heap.size+1) (by simp) ?_;intro g af bh py jE tc xu;have A6:=eA.grown (show eA (w.alloc (.cells #[q fX,.string (s.extract k e)] 237)).drew b s k v from h.alloc _) (an.alloc _).drew jE;obtain⟨d0,d1,d2⟩:=A6.cells;have Qj:=A6.free 1;have Qk:=A6.free 2);all_goals
  go_wp2_with fail;go_ret;have iR:Below lo w bh:=(((Below.refl lo w).alloc r _).drew).trans (ZP (an.alloc _).drew (by simp;omega) jE);exact⟨rfl,⟨_,(A6.A5 _).Da e,vO (vO py A6 K) (A6.A5 _) K⟩,(iR.setCell eI _).setCell eI _⟩
def nI(ts:e4):Nat:=(ts.getLast?.map dD).getD 0
def Ql(ts:e4)(t:e6):gn (ts++[t])=gn ts++[q (dD t:Int),.string t]:=by simp[gn]
def Qm(ts:e4):(gn ts).length=ts.length*2:=by
 induction ts with
 | nil=>rfl
 | cons a C aH=>
  have e:gn (a::C)=[q (dD a:Int),.string a]++gn C:=by simp[gn]
  rw[e,cu,aH,di];simp;omega
def ZQ(ts:e4)(t:e6):(gn (ts++[t]))[ts.length*2]?=some (q (dD t:Int)):=by rw[Ql,List.getElem?_append_right (by rw[Qm];exact ap),Qm,Nat.sub_self];rfl
def ZR(lo b:Nat)(s:e6)(k:Nat)(v:Value)(ts:e4)(w:World)(h:eA w b s k v)(an:w.ownsRow lo 237 2 v ts.length (gn ts))(ar:ts.length<=1000000):ey 268 #[M b] w fun x w'=>x=.returned (q (nI ts:Int))/\∃U,w'=w.drewN U:=by
 obtain⟨bk,c1,c2⟩:=h.cells;rcases List.eq_nil_or_concat ts with rfl | ⟨C,t,rfl⟩
 ·have fa:Hid (nI []=0):=u rfl;rcases an.2 with⟨rfl,_⟩ | ⟨g,af,ay,rfl,_⟩
  ·go_enter func268,ntmps268;go_wp2_with fail;go_ret;exact⟨by rw[fa.d];rfl,0,rfl⟩
  ·go_enter func268,ntmps268;go_wp2_with fail;go_ret;exact⟨by rw[fa.d];rfl,0,rfl⟩
 ·rw[List.concat_eq_append] at an ar ⊢;have fa:Hid (nI (C++[t])=dD t):=u (by simp[nI]);have b7:(C++[t]).length=C.length+1:=by simp
  rw[b7] at an ar;rcases an.2 with⟨_,aw⟩ | ⟨g,af,ay,rfl,_⟩
  ·cases aw
  ·have ai:=an.cells rfl _ _ (ZQ C t);rw[Addr.add_lit,ax1] at ai;have fr:IntKind.i64.wrap (C.length:Int)=C.length:=by rw[IntKind.wrap_i64];omega
   clear an b7;go_enter func268,ntmps268;go_wp2_with fail;go_quiet (fail);go_wp2_with fail;go_ret;exact⟨by rw[fa.d];rfl,_,rfl⟩
def oe(s:e6)(k bV:Nat):Bool:=decide (k+1<s.size)&&cI s[k+1]! && vN bV
def Kc(lo b:Nat)(s:e6)(k:Nat)(v:Value)(ts:e4)(w:World)(h:eA w b s k v)(an:w.ownsRow lo 237 2 v ts.length (gn ts))(ar:ts.length<=1000000)(hs:s.size<=1000000)(hk:k<s.size):ey 216 #[M b] w fun x w'=>x=.returned (.bool (oe s k (nI ts)))/\∃U,w'=w.drewN U:=by
 obtain⟨bk,c1,c2⟩:=h.cells;have fr:IntKind.i64.wrap ((k:Int)+1)=(k:Int)+1:=mC;by_cases bZ:k+1<s.size
 ·have y5:¬((k:Int)+1=(s.size:Int)):=r;have dR:(((k:Int)+1)==(s.size:Int))=false:=by simpa using y5
  have ky:(k:Int)+1<(s.size:Int):=r;cases bb:cI s[k+1]
  ·have ht:=u bb;have hT:Hid (oe s k (nI ts)=false):=u (by rw[oe,pu s (k+1) bZ,bb,Bool.and_false,Bool.false_and]);clear bb;go_enter func216,ntmps216;go_wp2_with (go_at_call 37;refine(px _ _).mono ?_;rintro e w' ⟨rfl,rfl⟩;rw[ht.d]);go_ret;exact⟨by rw[hT.d];rfl,0,rfl⟩
  ·have ht:=u bb;generalize e1:nI ts=bV;have hT:Hid (oe s k bV=vN bV):=u (by rw[oe,pu s (k+1) bZ,bb,ax3 bZ,Bool.true_and,Bool.true_and]);have cW:=u e1;clear bb e1;go_enter func216,ntmps216;go_upto_region 5 with(first | (go_at_call 37;refine(px _ _).mono ?_;rintro e w' ⟨rfl,rfl⟩;rw[ht.d]) | (go_at_call 268;refine(ZR lo b s k v ts _ h an ar).mono ?_;rintro e w' ⟨rfl,U,rfl⟩;rw[cW.d]));by_cases c7:bV=0
   ·subst c7;go_wp2_with fail;go_ret;exact⟨by rw[hT.d];rfl,_,rfl⟩
   have f0:((bV:Int)==0)=false:=by simp;omega
   by_cases hq:bV=4
   ·subst hq;go_wp2_with fail;go_ret;exact⟨by rw[hT.d];rfl,_,rfl⟩
   have f4:((bV:Int)==4)=false:=by simp;omega
   by_cases s8:bV=6
   ·subst s8;go_wp2_with fail;go_ret;exact⟨by rw[hT.d];rfl,_,rfl⟩
   have f6:((bV:Int)==6)=false:=by simp;omega
   by_cases sg:bV=8
   ·subst sg;go_wp2_with fail;go_ret;exact⟨by rw[hT.d];rfl,_,rfl⟩
   have f8:((bV:Int)==8)=false:=by simp;omega
   by_cases kX:bV=9
   ·subst kX;go_wp2_with fail;go_ret;exact⟨by rw[hT.d];rfl,_,rfl⟩
   have f9:((bV:Int)==9)=false:=by simp;omega
   by_cases y0:bV=10
   ·subst y0;go_wp2_with fail;go_ret;exact⟨by rw[hT.d];rfl,_,rfl⟩
   have f10:((bV:Int)==10)=false:=by simp;omega
   by_cases y1:bV=11
   ·subst y1;go_wp2_with fail;go_ret;exact⟨by rw[hT.d];rfl,_,rfl⟩
   have f11:((bV:Int)==11)=false:=by simp;omega
   by_cases y2:bV=12
   ·subst y2;go_wp2_with fail;go_ret;exact⟨by rw[hT.d];rfl,_,rfl⟩
   have f12:((bV:Int)==12)=false:=by simp;omega
   by_cases y3:bV=13
   ·subst y3;go_wp2_with fail;go_ret;exact⟨by rw[hT.d];rfl,_,rfl⟩
   have f13:((bV:Int)==13)=false:=by simp;omega
   by_cases qn:14<=bV
   ·have ZZ:(14:Int)<=(bV:Int):=r;have gy:Hid (vN bV=true):=u (by simp[vN,qn]);go_wp2_with fail;go_ret;exact⟨by rw[hT.d,gy.d];rfl,_,rfl⟩
   ·have ZZ:(bV:Int)<14:=r;have gy:Hid (vN bV=false):=u (by simp[vN,qn,c7,hq,s8,sg,kX,y0,y1,y2,y3]);go_wp2_with fail;go_ret;exact⟨by rw[hT.d,gy.d];show Ending.returned (.bool (decide ((14:Int)<=(bV:Int))))=_;rw[ax2 r],_,rfl⟩
 ·have y5:(k:Int)+1=(s.size:Int):=r;have dR:(((k:Int)+1)==(s.size:Int))=true:=by simpa using y5
  have hT:Hid (oe s k (nI ts)=false):=u (by rw[oe,ax2 bZ,Bool.false_and,Bool.false_and]);go_enter func216,ntmps216;go_wp2_with fail;go_ret;exact⟨by rw[hT.d];rfl,0,rfl⟩
def jj:List Value->Value
 | [v]=>v
 | _=>.pointer none
def lj(l:lh):List Value:=l.flatMap fun s=>[.string s.1,.string s.2]
inductive df (w:World):Nat->Nat->aL->List Value->Prop
 | nil {lo hi:Nat}:lo<=hi->df w lo hi .nil []
 | cons {lo m hi:Nat} {h t:aL} {v:Value} {vs:List Value}:df w lo m h [v]->df w m hi t vs->df w lo hi (.cons h t) (v::vs)
 | node {lo l1 m h1 hi:Nat} {b k:Nat} {src name:e6} {val:al} {parts query:aL} {co:Value} {vs qs:List Value} {p0 p1 p2:Int}:lo<=b->b<hi->lo<=l1->h1<=hi->(b<l1\/h1<=b)->
  w.heap[b]?=some (.cells #[q (k:Int),.string src,.string name,q (val.kind:Int),q val.num,.string (a7 val.du),co,jj qs,q p0,q p1,q p2] 247 (0,0))->
  w.ownsRow lo 101 1 co vs.length vs->df w l1 m parts vs->df w m h1 query qs->df w lo hi (.node k src name val parts query) [M b]
 | query {lo l1 m1 m2 m3 h1 hi:Nat} {b:Nat} {exprs wh bF uR:aL} {V:lh} {ev sv gv:Value} {es ws gs hs:List Value}:lo<=b->b<hi->lo<=l1->h1<=hi->(b<l1\/h1<=b)->
  w.heap[b]?=some (.cells #[ev,sv,jj ws,gv,jj hs] 103 (0,0))->
  w.ownsRow lo 101 1 ev es.length es->w.ownsRow lo 161 2 sv V.length (lj V)->w.ownsRow lo 101 1 gv gs.length gs->
  df w l1 m1 exprs es->df w m1 m2 wh ws->df w m2 m3 bF gs->df w m3 h1 uR hs->df w lo hi (.query exprs V wh bF uR) [M b]
def df.le(h:df w lo hi t vs):lo<=hi:=by
 induction h with
 | nil h=>exact h
 | cons _ _ h1 H=>omega
 | node=>omega
 | query=>omega
def iB(lo:Nat)(w w':World):Prop:=∀k,lo<=k->k<w.heap.size->w'.heap[k]?=w.heap[k]?
def iB.lt{o:Obj}(h:iB lo w w')(hk:lo<=k)(ct:w.heap[k]?=some o):w'.heap[k]?=some o:=(h k hk (br ct).1).trans ct
def iB.row(hs:iB lo w w')(h:w.ownsRow lo e size v n xs):w'.ownsRow lo e size v n xs:=by
 refine⟨h.1,?_⟩;rcases h.2 with ar | ⟨g,af,ay,rfl,A,en,rest⟩
 ·exact .inl ar
 ·exact .inr ⟨g,af,ay,rfl,A,hs.lt A en,rest⟩
def iB.mono(h:iB lo w w')(X:lo<=nJ):iB nJ w w':=fun k hk=>h k (bX X hk)
def df.kept(hs:iB lo w w')(h:df w lo hi t vs):df w' lo hi t vs:=by
 induction h with
 | nil h=>exact .nil h
 | cons a _ h1 H=>exact .cons (h1 hs) (H (hs.mono a.le))
 | node A ah X cf bb aa ag a _ h1 H=>exact .node A ah X cf bb (hs.lt A aa) (hs.row ag) (h1 (hs.mono X)) (H (hs.mono (bX X a.le)))
 | query A ah X cf bb aa j0 eN ir bq a2 a3 _ h1 H ab aK=>exact .query A ah X cf bb (hs.lt A aa) (hs.row j0) (hs.row eN) (hs.row ir) (h1 (hs.mono X)) (H (hs.mono (bX X bq.le))) (ab (hs.mono (bX X (bX bq.le a2.le)))) (aK (hs.mono (bX X (bX bq.le (bX a2.le a3.le)))))
def ei(X:nJ<=lo)(h:w.ownsRow lo e size v n xs):w.ownsRow nJ e size v n xs:=by
 refine⟨h.1,?_⟩;rcases h.2 with ar | ⟨g,af,ay,rfl,A,rest⟩
 ·exact .inl ar
 ·exact .inr ⟨g,af,ay,rfl,r,rest⟩
def df.wide(X:nJ<=lo)(cf:hi<=fM)(h:df w lo hi t vs):df w nJ fM t vs:=by
 induction h generalizing nJ fM with
 | nil h=>exact .nil r
 | cons _ _ h1 H=>exact .cons (h1 X ap) (H ap cf)
 | node A ah a b bb aa ag cn i2=>exact .node r r r r bb aa (ei X ag) cn i2
 | query A ah a b bb aa j0 eN ir cn i2 i3 i4=>exact .query r r r r bb aa (ei X j0) (ei X eN) (ei X ir) cn i2 i3 i4
def df.low(X:nJ<=lo)(h:df w lo hi t vs):df w nJ hi t vs:=h.wide X ap
def df.high(cf:hi<=fM)(h:df w lo hi t vs):df w lo fM t vs:=h.wide ap cf
def gW(R:w.grownBy w' (some b))(A:b<lo):iB lo w w':=fun k hk aD=>R.block k aD (by simp;omega)
def uT(lo:Nat)(w:World)(o:Obj):iB lo w (w.alloc o):=fun k _ aD=>Below.heap_alloc w o k aD
def iB.trans{lo:Nat}{a b c:World}(h1:iB lo a b)(H:iB lo b c)(hs:a.heap.size<=b.heap.size):iB lo a c:=fun k hk aD=>(H k hk r).trans (h1 k hk aD)
def it(w:World){o:Nat}(x:Value)(A:b<lo):iB lo w (w.setCell ⟨b,o,none⟩ x):=fun k hk _=>Below.heap_setCell _ _ _ k (by show k≠b;omega)
def uU(l:List aL)(t:aL):aL:=l.foldr .cons t
def Z0(l:List aL)(x t:aL):uU (l++[x]) t=uU l (.cons x t):=by simp[uU]
def df.snoc{x:aL}(aa:df w m hi x [v]):∀{l:List aL} {lo:Nat} {vs:List Value},df w lo m (uU l .nil) vs->df w lo hi (uU (l++[x]) .nil) (vs++[v]):=by
 intro l;induction l with
 | nil=>intro lo vs h;cases h with | nil h=>exact .cons (aa.low h) (.nil ap)
 | cons a C aH=>intro lo vs h;cases h with | cons h1 H=>exact .cons h1 (aH H)
def A9(c0:Nat->Prop)(v:Value):Prop:=∀k,v.ownBlock=some k->c0 k
inductive hU (w:World) (c0:Nat->Prop):Nat->Nat->aL->List Value->Prop
 | nil {lo hi:Nat}:lo<=hi->hU w c0 lo hi .nil []
 | cons {lo m hi:Nat} {h t:aL} {v:Value} {vs:List Value}:hU w c0 lo m h [v]->hU w c0 m hi t vs->hU w c0 lo hi (.cons h t) (v::vs)
 | node {lo l1 m h1 hi:Nat} {b k:Nat} {src name:e6} {val:al} {parts query:aL} {co:Value} {vs qs:List Value} {p0 p1 p2:Int}:lo<=b->b<hi->lo<=l1->h1<=hi->(b<l1\/h1<=b)->c0 b->
  w.heap[b]?=some (.cells #[q (k:Int),.string src,.string name,q (val.kind:Int),q val.num,.string (a7 val.du),co,jj qs,q p0,q p1,q p2] 247 (0,0))->
  w.ownsRow lo 101 1 co vs.length vs->A9 c0 co->hU w c0 l1 m parts vs->hU w c0 m h1 query qs->hU w c0 lo hi (.node k src name val parts query) [M b]
 | query {lo l1 m1 m2 m3 h1 hi:Nat} {b:Nat} {exprs wh bF uR:aL} {V:lh} {ev sv gv:Value} {es ws gs hs:List Value}:lo<=b->b<hi->lo<=l1->h1<=hi->(b<l1\/h1<=b)->c0 b->
  w.heap[b]?=some (.cells #[ev,sv,jj ws,gv,jj hs] 103 (0,0))->
  w.ownsRow lo 101 1 ev es.length es->w.ownsRow lo 161 2 sv V.length (lj V)->w.ownsRow lo 101 1 gv gs.length gs->A9 c0 ev->A9 c0 sv->A9 c0 gv->
  hU w c0 l1 m1 exprs es->hU w c0 m1 m2 wh ws->hU w c0 m2 m3 bF gs->hU w c0 m3 h1 uR hs->hU w c0 lo hi (.query exprs V wh bF uR) [M b]
def xw(h:w.ownsRow lo e size v n xs):A9 (fun k=>lo<=k/\k<w.heap.size) v:=fun k hk=>h.lt k hk
def df.Gl(h:df w lo hi t vs):hU w (fun k=>lo<=k/\k<w.heap.size) lo hi t vs:=by
 suffices g:∀eR,eR<=lo->hU w (fun k=>eR<=k/\k<w.heap.size) lo hi t vs from g lo ap
 induction h with
 | nil h=>exact fun _ _=>.nil h
 | cons a _ h1 H=>exact fun eR X=>.cons (h1 eR X) (H eR (bX X a.le))
 | node A ah a b bb aa ag cn _ h1 H=>intro eR X;exact .node A ah a b bb ⟨r,(br aa).1⟩ aa ag (fun k hk=>⟨bX X (xw ag k hk).1,(xw ag k hk).2⟩) (h1 eR r) (H eR (by have:=cn.le;omega))
 | query A ah a b bb aa j0 eN ir cn i2 i3 _ h1 H ab aK=>intro eR X;have Y:=cn.le;have am:=i2.le;have bm:=i3.le;exact .query A ah a b bb ⟨r,(br aa).1⟩ aa j0 eN ir (fun k hk=>⟨bX X (xw j0 k hk).1,(xw j0 k hk).2⟩) (fun k hk=>⟨bX X (xw eN k hk).1,(xw eN k hk).2⟩) (fun k hk=>⟨bX X (xw ir k hk).1,(xw ir k hk).2⟩) (h1 eR r) (H eR r) (ab eR r) (aK eR r)
def hU.Qw(h:hU w c0 lo hi t vs):df w lo hi t vs:=by
 induction h with
 | nil h=>exact .nil h
 | cons _ _ h1 H=>exact .cons h1 H
 | node A ah a b bb _ aa ag _ _ _ h1 H=>exact .node A ah a b bb aa ag h1 H
 | query A ah a b bb _ aa j0 eN ir _ _ _ _ _ _ _ h1 H ab aK=>exact .query A ah a b bb aa j0 eN ir h1 H ab aK
def hU.mono{S':Nat->Prop}(cv:∀k,c0 k->S' k)(h:hU w c0 lo hi t vs):hU w S' lo hi t vs:=by
 induction h with
 | nil h=>exact .nil h
 | cons _ _ h1 H=>exact .cons h1 H
 | node A ah a b bb hs aa ag i _ _ h1 H=>exact .node A ah a b bb (cv _ hs) aa ag (fun k e=>cv k (i k e)) h1 H
 | query A ah a b bb hs aa j0 eN ir cn i2 i3 _ _ _ _ h1 H ab aK=>exact .query A ah a b bb (cv _ hs) aa j0 eN ir (fun k e=>cv k (cn k e)) (fun k e=>cv k (i2 k e)) (fun k e=>cv k (i3 k e)) h1 H ab aK
def hU.wide(X:nJ<=lo)(cf:hi<=fM)(h:hU w c0 lo hi t vs):hU w c0 nJ fM t vs:=by
 induction h generalizing nJ fM with
 | nil h=>exact .nil r
 | cons _ _ h1 H=>exact .cons (h1 X ap) (H ap cf)
 | node A ah a b bb hs aa ag i cn i2=>exact .node r r r r bb hs aa (ei X ag) i cn i2
 | query A ah a b bb hs aa j0 eN ir hx dL jk cn i2 i3 i4=>exact .query r r r r bb hs aa (ei X j0) (ei X eN) (ei X ir) hx dL jk cn i2 i3 i4
def Gm(hk:∀k,c0 k->w'.heap[k]?=w.heap[k]?)(h:w.ownsRow lo e size v n xs)(hi:A9 c0 v):w'.ownsRow lo e size v n xs:=by
 refine⟨h.1,?_⟩;rcases h.2 with ar | ⟨g,af,ay,rfl,aw,R,rest⟩
 ·exact .inl ar
 ·exact .inr ⟨g,af,ay,rfl,aw,(hk g (hi g rfl)).trans R,rest⟩
def hU.kept(hk:∀k,c0 k->w'.heap[k]?=w.heap[k]?)(h:hU w c0 lo hi t vs):hU w' c0 lo hi t vs:=by
 induction h with
 | nil h=>exact .nil h
 | cons _ _ h1 H=>exact .cons h1 H
 | node A ah a b bb hs aa ag i _ _ h1 H=>exact .node A ah a b bb hs ((hk _ hs).trans aa) (Gm hk ag i) i h1 H
 | query A ah a b bb hs aa j0 eN ir cn i2 i3 _ _ _ _ h1 H ab aK=>exact .query A ah a b bb hs ((hk _ hs).trans aa) (Gm hk j0 cn) (Gm hk eN i2) (Gm hk ir i3) cn i2 i3 h1 H ab aK
def hU.low(X:nJ<=lo)(h:hU w c0 lo hi t vs):hU w c0 nJ hi t vs:=h.wide X ap
def hU.snoc{x:aL}(aa:hU w c0 m hi x [v]):∀{l:List aL} {lo:Nat} {vs:List Value},hU w c0 lo m (uU l .nil) vs->hU w c0 lo hi (uU (l++[x]) .nil) (vs++[v]):=by
 intro l;induction l with
 | nil=>intro lo vs h;cases h with | nil h=>exact .cons (aa.low h) (.nil ap)
 | cons a C aH=>intro lo vs h;cases h with | cons h1 H=>exact .cons h1 (aH H)
