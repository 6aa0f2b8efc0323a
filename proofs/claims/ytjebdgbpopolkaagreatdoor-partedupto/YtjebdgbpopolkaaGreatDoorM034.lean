import Derived.Test.YtjebdgbpopolkaaGreatDoorM025
import Derived.Test.YtjebdgbpopolkaaGreatDoorM033
set_option maxHeartbeats 0
set_option maxRecDepth 100000
set_option linter.all false
namespace Go.Proofs.YtjebdgbpopolkaaGreatDoor
open Tryz
open Go.RowKit
open bS
variable{wb:Nat}
def akU{F:Nat->Prop}{G:Option Nat}{B:List bG}{O:Int}{ao:Bool}{st:az}(gB:Option Addr)(cH dz:Nat)(w:World)(h:aM F w wb G B O ao st)(ai:cH<=st.ad.length)(ar:st.ad.length<=10000):CallsD prog 74 #[M wb,.slice gB cH dz] .returning w fun e bp w'=>bp=.returning/\N6 F wb G B O ao {st with ad:=st.ad.take (st.ad.length-cH)} w e w':=by
 have ef:=h.mZ;have X:=h.lt;obtain⟨aE,b0,bf,cl,gc,iM,aI,aZ,a6,dt,e8,i8⟩:=h.at_;rcases a6.2 with⟨rfl,aY⟩ | ⟨g,af,ay,rfl,q1,bN,fR,iK,j4,km⟩
 ·have hH:=h.Aw (v:=.slice none 0 0) (rs:=iM.take (st.ad.length-cH)) (rows':=st.ad.take (st.ad.length-cH)) (uQ _ _) (by
   have c7:st.ad=[]:=ma aY;have Y:iM=[]:=ma (by rw[e8.len,aY]);rw[c7,Y,List.take_nil,List.take_nil];exact⟨rfl,.inl ⟨rfl,rfl⟩⟩) (.inl dt) (e8.take _)
  have c2:=Z aI (i:=2) rfl;have f2:=aQ (i:=2) aI;have cx:=u hH;obtain rfl:cH=0:=r;clear hH aI aZ a6 dt e8 i8 ef X h ar ai;go_enter_d func74,ntmps74;go_region_with fail;all_goals
   go_end0;exact⟨rfl,_,cx.d.1.drew,cx.d.2.drew⟩
 ·have hH:=h.Aw (v:=.slice (some ⟨g,0,none⟩) (st.ad.length-cH) af) (rs:=iM.take (st.ad.length-cH)) (rows':=st.ad.take (st.ad.length-cH)) (uQ _ _) (by
   rw[List.length_take,Nat.min_eq_left r,<-D6];exact N4 a6 r) (.inl dt) (e8.take _)
  have c2:=Z aI (i:=2) rfl;have f2:=aQ (i:=2) aI;have cx:=u hH;have hw:IntKind.i64.wrap ((st.ad.length:Int)-(cH:Int))=((st.ad.length-cH:Nat):Int):=by rw[IntKind.wrap_i64];omega
  have h1:((st.ad.length-cH:Nat):Int)<=(af:Int):=r;clear hH aI aZ a6 dt e8 i8 ef X h;go_enter_d func74,ntmps74;go_region_with fail;all_goals
   go_end0;exact⟨rfl,_,cx.d.1.drew,cx.d.2.drew⟩
def OD:∀(k n:Nat),n<10 ^ (k+1)->(Lib.decDigits n).length<=k+1
 | 0,n,h=>by rw[Lib.decDigits,dif_pos (by simpa using h)];exact ap
 | k+1,n,h=>by
  rw[Lib.decDigits];split
  ·simp
  ·rw[cu];have:=OD k (n/10) (by rw[Nat.pow_succ] at h;omega);show _+1<=_;omega
def OE{v:al}(h:fv v):(iI v).length<=20:=by
 have h1:=h.low;have H:=h.high;unfold iI;split
 ·rw[V5];unfold Lib.itoa;split
  ·rw[di];have:=OD 12 v.num.natAbs r;omega
  ·have:=OD 12 v.num.toNat r;omega
 split
 ·have h1:=h.Sq;unfold jf at h1;have ab:v.du.length<=8:=of_decide_eq_true (Bool.and_eq_true_iff.1 h1).2;simp only[cu,di,List.length_nil];omega
 ·decide
def akV(l:List al)(v:al):j6 (l++[v])=j6 l++iI v++[44]:=by unfold j6;rw[List.flatMap_append];simp
def OF:∀(l:List al),(∀v∈l,fv v)->(j6 l).length<=21*l.length
 | [],_=>ap
 | v::C,h=>by have h1:=OF C (fun x aa=>h x (List.mem_cons_of_mem _ aa));have H:=OE (h v (ax6 ..));have e:j6 (v::C)=(iI v++[44])++j6 C:=rfl;rw[e,cu,cu,di,di,List.length_nil];omega
def V9{b lo size n:Nat}{e:TypeId}{v:Value}{xs:List Value}{w w':World}(h:w.ownsRow lo e size v n xs)(hk:o7 b w w')(A:b<lo)(he:e≠5):w'.ownsRow lo e size v n xs:=by
 refine⟨h.1,?_⟩;rcases h.2 with ar | ⟨g,af,ay,rfl,q1,bN,rest⟩
 ·exact .inl ar
 ·exact .inr ⟨g,af,ay,rfl,q1,hk g ay e r he bN,rest⟩
def akW{fl bl:Value}{gB:Option Addr}{cH dz:Nat}{vs:List al}(uq:fl=.slice gB cH dz)(xV:World->Prop)(zr:World->World->Prop)(cm:World->Prop)(w:World)(Cx:∀v∈vs,fv v)(uc:vs.length<=10000)(hW:ey 71 #[M wb,fl] w fun e J=>e=.returned (.tuple #[])/\xV J)(fb:∀J,xV J->ey 73 #[M wb,bl] (J.alloc (.cells #[.pointer none,.slice none 0 0] 304)) fun e S=>∃v,e=.returned v/\S.ownsRow (J.heap.size+1) 112 3 v vs.length (fc vs)/\zr J S)(ch:∀J S,xV J->zr J S->J.heap.size+1<=S.heap.size/\2<J.heap.size/\kQ S/\S.heap[J.heap.size]?=some (.cells #[.pointer none,.slice none 0 0] 304 (0,0)))(ht:∀J S aA,xV J->zr J S->Below J.heap.size S aA->CallsD prog 74 #[M wb,fl] .returning aA fun e bp bI=>bp=.returning/\e=.returned (.tuple #[])/\cm bI):ey 165 #[M wb,bl,fl] w fun e w'=>e=.returned (.string (a7 (j6 vs)))/\cm w':=by
 subst uq;have Hp:=u hW;have akX:=u fb;have Fq:=u ch;have akY:=u ht;have Is:=u Cx;clear hW fb ch ht Cx;go_enter_defers func165,ntmps165;go_upto_region 4 with(go_at_call 71;refine Hp.d.mono ?_;rintro e J ⟨rfl,FB⟩);have Wa:=u (akX.d J FB);go_upto_region 5 with(go_at_call 73;refine Wa.d.mono ?_;rintro e S ⟨v,rfl,an,kL⟩;obtain⟨aC,fj,rfl⟩:=cG an);obtain⟨z0,b3,au,fT⟩:=Fq.d J S FB kL;have Wb:=u (And.intro FB kL);have e9:=u an;have dy:=u au;have En:=u fT;have yC:=u z0;have wy:=u b3;clear FB kL an au fT Wa z0 b3;generalize cr:J.heap.size=aB at *;have eo:=u cr;clear cr
 go_loopg [19] (vs.length+1) (fun U i wr=>∃(j:Nat),j<=vs.length/\i=q (j:Int)/\Hid (Lib.IsBuilder 304 5 aB aB (Lib.byteCells (j6 (vs.take j))) wr)/\Hid (Below aB S wr)/\Hid (wr.ownsRow (aB+1) 112 3 (.slice aC vs.length fj) vs.length (fc vs))/\vs.length-j<U);case atStart=>exact⟨0,bu,rfl,u (.inl ⟨ap,.slice none 0 0,En.d,⟨rfl,.inl ⟨rfl,rfl⟩⟩,by simp[Value.ownBlock]⟩),u (Below.refl _ _),e9,r⟩
 case round=>
  obtain⟨j,aS,rfl,bw,A,ag,ae⟩:=hrel;by_cases aD:j<vs.length
  ·have cL:(j:Int)<(vs.length:Int):=r;obtain⟨g,rfl⟩:∃g,aC=some ⟨g,0,none⟩:=by
    rcases ag.d.2 with⟨e,aw⟩ | ⟨g,af,ay,e,_⟩
    ·omega
    ·injection e with Y _ _;exact⟨g,Y⟩
   obtain⟨v0,v1,v2⟩:=wu vs j aD;have c7:=ag.d.cells rfl _ _ v0;have Y:=ag.d.cells rfl _ _ v1;have am:=ag.d.cells rfl _ _ v2;rw[Addr.add_lit,ax1] at c7 Y am;have OG:=Is.d _ (ec aD);have Fw:Hid (j6 (vs.take (j+1))=j6 (vs.take j)++iI vs[j]++[44]):=u (by rw[jD aD,akV]);have jl:=OF (vs.take j) (fun x aa=>Is.d x (List.mem_of_mem_take aa));have tU:=OE OG;have asY:(j6 (vs.take j)).length<=210000:=by rw[List.length_take] at jl;omega
   have fr:IntKind.i64.wrap ((j:Int)+1)=(j:Int)+1:=mC;have akZ:=u ae;clear v0 v1 v2 ae jl;generalize vs[j]=x at *;generalize j6 (vs.take j)=o at *;have ak0:=u OG;have mi:(a7 (iI x)).size<=20:=by show((iI x).toArray).size<=20;simpa using tU
   have ef:g<wr.heap.size:=by
    rcases ag.d.2 with⟨e,_⟩ | ⟨dM,af,ay,e,_,cf,_⟩
    ·cases e
    ·injection e with e;injection e with e;injection e with e;subst e;exact(br cf).1
   clear OG tU;go_upto_region 7 with fail;have dF:=(Below.refl wr.heap.size wr).alloc ap (.cells #[q (x.kind:Int),q x.num,.string (a7 x.du)] 112);have aO:=bH wr (.cells #[q (x.kind:Int),q x.num,.string (a7 x.du)] 112);have dN:=Z aO (i:=0) rfl;have bz:=Z aO (i:=1) rfl;have cz:=Z aO (i:=2) rfl;have x5:=u (Ls bw.d dF);have fN:=u (A.d.trans (dF.mono (bX (Nat.le_of_succ_le yC.d) A.d.size)));have ak1:=u (ee ag.d dF);have ak2:Hid (kQ (wr.alloc (.cells #[q (x.kind:Int),q x.num,.string (a7 x.du)] 112))):=u (dy.d.a8 (fN.d.block _ wy.d));clear c7 Y am bw A ag dF aO;generalize wr.alloc (.cells #[q (x.kind:Int),q x.num,.string (a7 x.du)] 112)=W at *;generalize wr.heap.size=Ac at *
   have OH:Hid (ey 82 #[.agg #[q (x.kind:Int),q x.num,.string (a7 x.du)]] W (gU W (.string (a7 (iI x))))):=u (V8 x ak0.d W ak2.d);have Ha:Hid (∀aA,Below W.heap.size W aA->ey 237 #[M aB,.string (a7 (iI x))] aA fun e bI=>e=.returned (.tuple #[q (a7 (iI x)).size,.nilIface])/\Hid (Lib.BuilderAt 304 5 aB aB (M aB) (Lib.byteCells o++Lib.strCells (a7 (iI x))) bI)/\Hid (Below aB aA bI)/\Hid (o7 aB aA bI)):=u (fun aA cg=>by
    refine(SG aB aB (Lib.byteCells o) (a7 (iI x)) aA (Ls x5.d cg) (by rw[Lib.byteCells_length];omega) (bX (bX (Nat.le_of_succ_le yC.d) fN.d.size) cg.size)).mono ?_;rintro e bI ⟨rfl,bq,a2,a3⟩;exact⟨rfl,u bq,u a2,u a3⟩)
   generalize Wc:a7 (iI x)=T at *;have Ob:=u Wc;clear Wc;go_upto_region 8 with(first | (go_at_call 82;refine OH.d.mono ?_;rintro e aA ⟨rfl,cg⟩) | (go_at_call 237;refine(Ha.d _ cg).mono ?_;rintro e bI ⟨rfl,B4,lM,rm⟩));have Cm:=u (V9 (ee ak1.d cg) rm.d (Nat.lt_succ_self _) K);have Wd:=u ((fN.d.trans (cg.mono (bX (Nat.le_of_succ_le yC.d) fN.d.size))).trans lM.d);have za:Hid (ey 238 #[M aB,.int .u8 44] bI fun e bh=>e=.returned .nilIface/\Hid (Lib.BuilderAt 304 5 aB aB (M aB) (Lib.byteCells o++Lib.strCells T++[.int .u8 44]) bh)/\Hid (Below aB bI bh)/\Hid (o7 aB bI bh)):=u (by
    refine(SF aB aB (Lib.byteCells o++Lib.strCells T) 44 bI (.inr B4.d) (by rw[cu,Lib.byteCells_length,Lib.strCells_length];omega) (bX (Nat.le_of_succ_le yC.d) Wd.d.size)).mono ?_;rintro e bh ⟨rfl,bq,a2,a3⟩;exact⟨rfl,u bq,u a2,u a3⟩)
   clear dN bz cz cg B4 lM rm;go_wp2_with (go_at_call 238;refine za.d.mono ?_;rintro e bh ⟨rfl,nx,iR,Tg⟩);have ae:=akZ.d;go_roundg (gk-1);case measure=>omega
   case rel=>exact⟨j+1,r,by go_num,u (.inr (by rw[Fw.d];have:=nx.d;rw[<-Ob.d,Lib.strCells_eq,show(a7 (iI x)).data.toList=iI x from by simp[a7]] at this;simpa [Lib.byteCells] using this)),u (Wd.d.trans iR.d),u (V9 Cm.d Tg.d (Nat.lt_succ_self _) K),r⟩
  ·have eZ:j=vs.length:=r;subst eZ;have cL:(vs.length:Int)<=(vs.length:Int):=r;have gy:Hid (ey 239 #[M aB] wr fun e aA=>e=.returned (.string (a7 (j6 vs)))/\Hid (Below aB wr aA)):=u (by
    have lW:=bw.d;rw[List.take_length] at lW;refine(Tryz.Builder_String_any aB aB (j6 vs) _ lW (bX (Nat.le_of_succ_le yC.d) A.d.size)).mono ?_;rintro e aA ⟨rfl,ab⟩;exact⟨rfl,u ab⟩)
   have w8:Hid (∀aA,Hid (Below aB wr aA)->CallsD prog 74 #[M wb,.slice gB cH dz] .returning aA fun e bp bI=>bp=.returning/\e=.returned (.tuple #[])/\cm bI):=u (fun aA ab=>akY.d J S aA Wb.d.1 Wb.d.2 (by rw[eo.d];exact A.d.trans ab.d));go_wp2_with (go_at_call 239;refine gy.d.mono ?_;rintro e aA ⟨rfl,cg⟩);refine leaves_cons (f:=74) (args:=#[M wb,.slice gB cH dz]) (by simp) (by simp[go_sem]) ?_;refine(w8.d aA cg).mono ?_;rintro e bp bI ⟨rfl,rfl,b1⟩;exact⟨_,results_tmp rfl _ _ _,rfl,b1⟩
