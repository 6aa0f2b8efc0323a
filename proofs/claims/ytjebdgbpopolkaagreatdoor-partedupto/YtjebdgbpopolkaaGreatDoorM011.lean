import Derived.Test.YtjebdgbpopolkaaGreatDoorM007
set_option maxHeartbeats 0
set_option maxRecDepth 100000
set_option linter.all false
namespace Go.Proofs.YtjebdgbpopolkaaGreatDoor
open Tryz
open Go.RowKit
open bS
variable{W w:World}{b k:Nat}{v:Value}{ts:e4}{c s:Option (e4)}{cs:Array Value}
def ru(l:e4):Option (e4×aL):=bP (8*l.length+8) 2 l
def Ld(b:Nat)(v:Value)(ts:e4)(hs:gz ts)(b5:8<=b)(c:Option (e4)):kl 221 b v ts ru c:=by
 cases c with
 | none=>exact Lc _ b v ts hs b5
 | some l=>intro w h R;have aa:=(ac9 (8*l.length+8)).2 b v ts hs b5 (some l) (fun C e=>by obtain rfl:=bx e;omega) w h R;rw[b2] at aa ⊢;rw[ru];exact aa
def gq(l:e4):Nat:=if hk l=31 then 1 else if hk l=32 then 2 else 0
def kE(l:e4):Option (e4×aL):=if hk l=31 then (dq 2 l.tail).bind fun a=>ru a.2 else if hk l=32 then ru l.tail else ru l
def ada(k:Nat)(hk:k≠0)(c:Option (e4)):mH k c=jG (eV [k] c):=(Rj k hk c).1.symm
def adb(b:Nat)(v:Value)(ts:e4)(c:Option (e4))(w:World)(h:Rd w b v ts c)(hs:gz ts):ey 220 #[M b] w fun e w'=>e=.returned (q (fy (mH 2 c).2.data.toList).1.num)/\Rd w' b v ts (c8 2 c)/\w.grownBy w' (some b):=by
 have mi:=Rl h hs [2];rw[<-ada 2 K] at mi;generalize bi:mH 2 c=T at *;generalize dG:c8 2 c=c1;obtain⟨jt,bG⟩:=T;simp only at mi ⊢;generalize b1:fy bG.data.toList=cm;obtain⟨lO,rb⟩:=cm;have cK:=u b1;clear b1;go_enter func220,ntmps220;go_wp2_with fail;refine(ll 2 2 rfl K b v ts c c1 _ bi dG w _ (by simp) h hs.1).mono ?_;rintro e J ⟨rfl,ft,dv⟩;clear bi dG;have GF:=Rm jt bG J;go_wp2_with (go_at_call 94;refine(Gz bG _ r).mono ?_;rintro e S ⟨rfl,ah⟩;rw[cK.d];simp only[cb]);have bC:J.grownBy S (some b):=⟨ah.os,ah.tape,ah.output,ah.size,fun k hk _=>ah.block k hk⟩;go_ret;exact⟨rfl,(ft.below ah).alloc _,(dv.trans bC).trans (World.grownBy_alloc S _ _)⟩
def GW(w:World)(b:Nat)(v:Value)(ts:e4)(adc:Nat)(ade:Int)(o:Option (e4×aL))(e:Ending)(w':World):Prop:=∃(sp:Int) (x:Nat),Hid (sp=ade)/\e=.returned (.agg #[q (adc:Int),q sp,M x])/\Rd w' b v ts (o.map (·.1))/\w.grownBy w' (some b)/\∀C t,o=some (C,t)->∃hi,df w' w.heap.size hi t [M x]
structure rv (w:World) (b:Nat) (v:Value) (ts:e4) (W:World) (s:Option (e4)) (cs:Array Value):Prop where
 rd:Rd W b v ts s
 fi:w.grownBy W (some b)
 C:W.heap[w.heap.size]?=some (.cells #[q 0,q 0,.pointer none] 75 (0,0))
 U:W.heap[w.heap.size+1]?=some (.cells cs 75 (0,0))
def rv.call{aU:World}{fu:Option (e4)}(h:rv w b v ts W s cs)(A:b<w.heap.size)(ag:Rd aU b v ts fu)(R:W.grownBy aU (some b)):rv w b v ts aU fu cs:=⟨ag,h.fi.trans R,nP h.C R r,nP h.U R r⟩
def rv.set{w:World}{b:Nat}{v:Value}{ts:e4}{W:World}{s:Option (e4)}{cs:Array Value}(h:rv w b v ts W s cs)(i:Nat)(x:Value):rv w b v ts (W.setCell ⟨w.heap.size+1,i,none⟩ x) s (cs.setIfInBounds i x):=⟨h.rd.set x h.U K K,k1 h.fi (Nat.le_succ _) i x,(Below.heap_setCell _ _ _ _ (by show w.heap.size≠w.heap.size+1;omega)).trans h.C,heap_setCell h.U x⟩
def rv.cell(h:rv w b v ts W s cs){i:Nat}{x:Value}(aa:cs[i]?=some x):dp W (w.heap.size+1) i=some x:=Z h.U aa
def rv.free(h:rv w b v ts W s cs)(i:Nat):W.frozen? ⟨w.heap.size+1,i,none⟩=false:=aQ h.U
def Le(h:cM c≠k):gL k c=c:=by unfold gL;rw[if_neg h]
def Sh(h:cM c=k):gL k c=eJ c:=by unfold gL;rw[if_pos h]
def adf(h:cM c=31):(c8 2 (eJ c)).bind ru=c.bind kE:=by
 obtain⟨l,rfl,X⟩:=wa h K;obtain⟨t0,c3,rfl,_⟩:=kC X K;rw[b2];unfold kE;rw[if_pos X];show(c8 2 (some c3)).bind ru=_;rw[oZ,List.tail_cons];cases dq 2 c3 with
 | none=>rfl
 | some a=>rfl
def adg(h:cM c=32):(eJ c).bind ru=c.bind kE:=by obtain⟨l,rfl,X⟩:=wa h K;obtain⟨t0,c3,rfl,_⟩:=kC X K;rw[b2];unfold kE;rw[if_neg r,if_pos X];rfl
def adh(h:cM c≠31)(H:cM c≠32):c.bind ru=c.bind kE:=by
 cases c with
 | none=>rfl
 | some l=>rw[b2,b2];unfold kE;rw[if_neg (by exact h),if_neg (by exact H)]
def adi(b:Nat)(v:Value)(ts:e4)(c:Option (e4))(w:World)(h:Rd w b v ts c)(R:et w)(hs:gz ts)(b5:8<=b)(lV:cM c≠31)(qz:cM c≠32):ey 145 #[M b] w (GW w b v ts 0 0 (c.bind kE)):=by
 have cY:=h.lt;have fs:=h.own;have k5:rv w b v ts ((w.alloc (.cells #[q 0,q 0,.pointer none] 75)).alloc (.cells #[q 0,q 0,.pointer none] 75)) c #[q 0,q 0,.pointer none]:=⟨(h.alloc _).alloc _,(World.grownBy_alloc w _ _).trans (World.grownBy_alloc _ _ _),nO (bH w _) _,vY _ _ (by simp) _⟩;rw[<-adh lV qz];go_enter func145,ntmps145;go_wp2_with fail;refine(pE b v ts c 31 _ k5.rd hs.1).mono ?_;rw[Le lV,ax2 lV];rintro e J ⟨rfl,ft,dv⟩;have ha:=k5.call cY ft dv;go_wp2_with fail;refine(pE b v ts c 32 J ha.rd hs.1).mono ?_;rw[Le qz,ax2 qz];rintro e S ⟨rfl,dW,bC⟩;have jJ:=ha.call cY dW bC;clear lV qz;go_wp2_with fail;refine(Ld b v ts hs b5 c S jJ.rd (R.grown jJ.fi b5)).mono ?_;rintro e wk ⟨x,rfl,DN,mj,DO⟩;have tK:=jJ.call cY DN mj;have bN:=tK.cell (i:=2) rfl
 have f2:=tK.free 2;have hZ:=tK.set 2 (M x);have Si:=mj.size;have iE:w.heap.size+2<=S.heap.size:=by have:=(br jJ.U).1;omega
 have c3:=Z hZ.C (i:=0) rfl;have cX:=Z hZ.C (i:=1) rfl;have cA:=Z hZ.C (i:=2) rfl;have g0:=aQ (i:=0) hZ.C;have g1:=aQ (i:=1) hZ.C;have g2:=aQ (i:=2) hZ.C;have gm:=hZ.cell (i:=0) rfl;have aI:=hZ.cell (i:=1) rfl;have aZ:=hZ.cell (i:=2) rfl;go_wp2_with fail;refine bodyPost_ret (v:=.agg #[q 0,q 0,M x]) (by simp[results,results145,go_sem, *]) rfl ⟨0,x,u rfl,rfl,?_,?_,fun C t au=>?_⟩
 ·exact((hZ.rd.pD fs cY ap _).pD fs cY ap _).pD fs cY ap _
 ·exact k1 (k1 (k1 hZ.fi ap _ _) ap _ _) ap _ _
 ·have pH:=(DO C t au).low (by omega:w.heap.size+2<=S.heap.size);exact⟨_,((((pH.kept (it wk _ (show w.heap.size+1<w.heap.size+2 by omega))).kept (it _ _ (show w.heap.size<w.heap.size+2 by omega))).kept (it _ _ (show w.heap.size<w.heap.size+2 by omega))).kept (it _ _ (show w.heap.size<w.heap.size+2 by omega))).low r⟩
def adj(b:Nat)(v:Value)(ts:e4)(c:Option (e4))(w:World)(h:Rd w b v ts c)(R:et w)(hs:gz ts)(b5:8<=b)(qz:cM c=32):ey 145 #[M b] w (GW w b v ts 2 0 (c.bind kE)):=by
 have cY:=h.lt;have fs:=h.own;have k5:rv w b v ts ((w.alloc (.cells #[q 0,q 0,.pointer none] 75)).alloc (.cells #[q 0,q 0,.pointer none] 75)) c #[q 0,q 0,.pointer none]:=⟨(h.alloc _).alloc _,(World.grownBy_alloc w _ _).trans (World.grownBy_alloc _ _ _),nO (bH w _) _,vY _ _ (by simp) _⟩;rw[<-adg qz];go_enter func145,ntmps145;go_wp2_with fail;have lV:cM c≠31:=r;refine(pE b v ts c 31 _ k5.rd hs.1).mono ?_;rw[Le lV,ax2 lV];rintro e J ⟨rfl,ft,dv⟩;have ha:=k5.call cY ft dv;go_wp2_with fail;refine(pE b v ts c 32 J ha.rd hs.1).mono ?_;rw[Sh qz,ax3 qz];rintro e S ⟨rfl,dW,bC⟩;have jJ:=ha.call cY dW bC;have k6:=jJ.cell (i:=0) rfl;have f0:=jJ.free 0;have wl:=jJ.set 0 (q 2);clear lV qz;go_wp2_with fail
 refine(Ld b v ts hs b5 (eJ c) _ wl.rd (R.grown wl.fi b5)).mono ?_;rintro e wk ⟨x,rfl,DN,mj,DO⟩;have tK:=wl.call cY DN mj;have bN:=tK.cell (i:=2) rfl;have f2:=tK.free 2;have hZ:=tK.set 2 (M x);have Si:=mj.size;have iE:w.heap.size+2<=(S.setCell ⟨w.heap.size+1,0,none⟩ (q 2)).heap.size:=by have:=(br wl.U).1;omega
 have c3:=Z hZ.C (i:=0) rfl;have cX:=Z hZ.C (i:=1) rfl;have cA:=Z hZ.C (i:=2) rfl;have g0:=aQ (i:=0) hZ.C;have g1:=aQ (i:=1) hZ.C;have g2:=aQ (i:=2) hZ.C;have gm:=hZ.cell (i:=0) rfl;have aI:=hZ.cell (i:=1) rfl;have aZ:=hZ.cell (i:=2) rfl;go_wp2_with fail;refine bodyPost_ret (v:=.agg #[q 2,q 0,M x]) (by simp[results,results145,go_sem, *]) rfl ⟨0,x,u rfl,rfl,?_,?_,fun C t au=>?_⟩
 ·exact((hZ.rd.pD fs cY ap _).pD fs cY ap _).pD fs cY ap _
 ·exact k1 (k1 (k1 hZ.fi ap _ _) ap _ _) ap _ _
 ·have pH:=(DO C t au).low (by omega:w.heap.size+2<=(S.setCell ⟨w.heap.size+1,0,none⟩ (q 2)).heap.size);exact⟨_,((((pH.kept (it wk _ (show w.heap.size+1<w.heap.size+2 by omega))).kept (it _ _ (show w.heap.size<w.heap.size+2 by omega))).kept (it _ _ (show w.heap.size<w.heap.size+2 by omega))).kept (it _ _ (show w.heap.size<w.heap.size+2 by omega))).low r⟩
def adk(b:Nat)(v:Value)(ts:e4)(c:Option (e4))(w:World)(h:Rd w b v ts c)(R:et w)(hs:gz ts)(b5:8<=b)(lV:cM c=31):ey 145 #[M b] w (GW w b v ts 1 (fy (mH 2 (eJ c)).2.data.toList).1.num (c.bind kE)):=by
 have cY:=h.lt;have fs:=h.own;have k5:rv w b v ts ((w.alloc (.cells #[q 0,q 0,.pointer none] 75)).alloc (.cells #[q 0,q 0,.pointer none] 75)) c #[q 0,q 0,.pointer none]:=⟨(h.alloc _).alloc _,(World.grownBy_alloc w _ _).trans (World.grownBy_alloc _ _ _),nO (bH w _) _,vY _ _ (by simp) _⟩;rw[<-adf lV];go_enter func145,ntmps145;go_wp2_with fail;refine(pE b v ts c 31 _ k5.rd hs.1).mono ?_;rw[Sh lV,ax3 lV];rintro e J ⟨rfl,ft,dv⟩;have ha:=k5.call cY ft dv;have k6:=ha.cell (i:=0) rfl;have f0:=ha.free 0;have Sj:=ha.set 0 (q 1);clear lV;go_wp2_with fail;refine(adb b v ts (eJ c) _ Sj.rd hs).mono ?_;generalize Sk:(fy (mH 2 (eJ c)).2.data.toList).1.num=sp;have zz:=u Sk.symm;clear Sk;rintro e S ⟨rfl,dW,bC⟩;have jJ:=Sj.call cY dW bC;have q1:=jJ.cell (i:=1) rfl
 have f1:=jJ.free 1;have wl:=jJ.set 1 (q sp);go_wp2_with fail;refine(Ld b v ts hs b5 _ _ wl.rd (R.grown wl.fi b5)).mono ?_;rintro e wk ⟨x,rfl,DN,mj,DO⟩;have tK:=wl.call cY DN mj;have bN:=tK.cell (i:=2) rfl;have f2:=tK.free 2;have hZ:=tK.set 2 (M x);have Si:=mj.size;have iE:w.heap.size+2<=(S.setCell ⟨w.heap.size+1,1,none⟩ (q sp)).heap.size:=by have:=(br wl.U).1;omega
 have c3:=Z hZ.C (i:=0) rfl;have cX:=Z hZ.C (i:=1) rfl;have cA:=Z hZ.C (i:=2) rfl;have g0:=aQ (i:=0) hZ.C;have g1:=aQ (i:=1) hZ.C;have g2:=aQ (i:=2) hZ.C;have gm:=hZ.cell (i:=0) rfl;have aI:=hZ.cell (i:=1) rfl;have aZ:=hZ.cell (i:=2) rfl;go_wp2_with fail;refine bodyPost_ret (v:=.agg #[q 1,q sp,M x]) (by simp[results,results145,go_sem, *]) rfl ⟨sp,x,zz,rfl,?_,?_,fun C t au=>?_⟩
 ·exact((hZ.rd.pD fs cY ap _).pD fs cY ap _).pD fs cY ap _
 ·exact k1 (k1 (k1 hZ.fi ap _ _) ap _ _) ap _ _
 ·have pH:=(DO C t au).low (by omega:w.heap.size+2<=(S.setCell ⟨w.heap.size+1,1,none⟩ (q sp)).heap.size);exact⟨_,((((pH.kept (it wk _ (show w.heap.size+1<w.heap.size+2 by omega))).kept (it _ _ (show w.heap.size<w.heap.size+2 by omega))).kept (it _ _ (show w.heap.size<w.heap.size+2 by omega))).kept (it _ _ (show w.heap.size<w.heap.size+2 by omega))).low r⟩
def mM(l:e4):Int:=if hk l=31 then (fy (mH 2 (eJ (some l))).2.data.toList).1.num else 0
def adl(b:Nat)(v:Value)(ts:e4)(l:e4)(w:World)(h:Rd w b v ts (some l))(R:et w)(hs:gz ts)(b5:8<=b):ey 145 #[M b] w (GW w b v ts (gq l) (mM l) (kE l)):=by
 by_cases lV:hk l=31
 ·have e:gq l=1:=by unfold gq;rw[if_pos lV]
  rw[e,show mM l=_ from if_pos lV];exact adk b v ts (some l) w h R hs b5 lV
 ·by_cases qz:hk l=32
  ·have e:gq l=2:=by unfold gq;rw[if_neg lV,if_pos qz]
   rw[e,show mM l=_ from if_neg lV];exact adj b v ts (some l) w h R hs b5 qz
  ·have e:gq l=0:=by unfold gq;rw[if_neg lV,if_neg qz]
   rw[e,show mM l=_ from if_neg lV];exact adi b v ts (some l) w h R hs b5 lV qz
def adm(ts:e4)(w:World)(e:Ending)(w':World):Prop:=(∃(t:aL) (sp:Int) (x:Nat),Hid (sp=mM ts)/\kE ts=some ([],t)/\e=.returned (.tuple #[.agg #[q (gq ts:Int),q sp,M x],.bool true])/\(∃hi,df w' w.heap.size hi t [M x])/\eB w w')\/((∀t,kE ts≠some ([],t))/\e=.returned (.tuple #[.agg #[q 0,q 0,.pointer none],.bool false])/\eB w w')
def Rd.flag(h:Rd w b v ts s):dp w b 2=some (.bool s.isNone):=by obtain⟨p,bad,h1,_,_,_,rfl⟩:=h;have:=h1.cells.2.2;rw[this];cases bad<;>rfl
def Rd.sub{l:e4}(h:Rd w b v ts (some l)):∀t∈l,t∈ts:=by
 obtain⟨p,bad,_,_,_,_,ai⟩:=h;cases bad
 ·obtain rfl:=bx ai;exact fun t au=>List.mem_of_mem_drop au
 ·cases ai
def adn{o:Option (e4×aL)}(h:Rd w b v ts (o.map (·.1)))(hk:tl ts):(∃t,o=some ([],t)/\eJ (eV [0] (o.map (·.1)))=some [])\/((∀t,o≠some ([],t))/\eJ (eV [0] (o.map (·.1)))=none):=by
 cases o with
 | none=>exact Or.inr ⟨(fun t e=>by cases e),by show eJ (eV [0] none)=none;rw[zf];rfl⟩
 | some x=>
  obtain⟨C,t⟩:=x;cases C with
  | nil=>exact Or.inl ⟨t,rfl,rfl⟩
  | cons a l=>refine Or.inr ⟨(fun ne e=>by cases e),?_⟩;have ado:dD a≠0:=hk a (Rd.sub (l:=a::l) h a ax6);show eJ (eV [0] (some (a::l)))=none;unfold eV;rw[Ri];have e:cM (some (a::l))=dD a:=rfl;rw[e,ax2 ado];rfl
def adp(v:Value)(ts:e4)(w:World)(an:w.ownsRow 0 237 2 v ts.length (gn ts))(R:et w)(hs:gz ts)(hk:tl ts):ey 96 #[v] w (adm ts w):=by
 have k0:=R.js;obtain⟨aC,fj,rfl⟩:=cG an;have fs:∀k,(Value.slice aC ts.length fj).ownBlock=some k->k<w.heap.size:=fun k e=>(an.lt k e).2;go_enter func96,ntmps96;go_wp2_with fail;generalize DP:(w.alloc (.cells #[q 0,q 0,.pointer none] 75)).alloc (.cells #[.slice aC ts.length fj,q 0,.bool false] 234)=hz;have z0:hz.heap.size=w.heap.size+2:=by rw[<-DP];simp
 have xE:Rd hz (w.heap.size+1) (.slice aC ts.length fj) ts (some ts):=by rw[<-DP];exact⟨0,false,vY _ _ (by simp) _,(an.alloc _).alloc _,bu,(fun e=>Bool.noConfusion e),by simp⟩
 have tL:hz.heap[w.heap.size]?=some (.cells #[q 0,q 0,.pointer none] 75 (0,0)):=by rw[<-DP];exact nO (bH w _) _
 have kF:eB w hz:=by rw[<-DP];exact cT.alloc (by simp) _
 have th:et hz:=R.below kF k0;have c4:=adl (w.heap.size+1) (.slice aC ts.length fj) ts ts hz xE th hs r;clear DP;refine c4.mono ?_;rintro e J ⟨sp,x,zz,rfl,ft,dv,pL⟩;clear c4;have b3:=dv.size;have ju:=nP tL dv r;have te:=adn ft hk;have sk:=ft.alloc (.cells #[q (gq ts:Int),q sp,M x] 75);go_wp2_with fail;rcases te with⟨t,Lf,zd⟩ | ⟨b8,zd⟩
 ·refine(GE [0] _ 1 rfl rfl K (w.heap.size+1) _ ts _ _ _ rfl zd _ _ (by simp) sk hs.1).mono ?_;rintro e S ⟨rfl,dW,bC⟩;have z2:J.heap.size+1<=S.heap.size:=by have:=bC.size;simpa using this
  have iT:=dW.flag;have fq:=nP (bH J (.cells #[q (gq ts:Int),q sp,M x] 75)) bC r;have ot:=nP (nO ju (.cells #[q (gq ts:Int),q sp,M x] 75)) bC r;have eR:=Z fq (i:=0) rfl;have l1:=Z fq (i:=1) rfl;have bT:=Z fq (i:=2) rfl;have c3:=Z ot (i:=0) rfl;have cX:=Z ot (i:=1) rfl;have cA:=Z ot (i:=2) rfl;have g0:=aQ (i:=0) ot;have g1:=aQ (i:=1) ot;have g2:=aQ (i:=2) ot;have adq:dp S (w.heap.size+1) 2=some (.bool false):=iT;have ah:eB w S:=kF.trans ((Below.grown (Below.refl _ hz) dv r (fun k e=>by cases e;omega)).trans (Below.grown ((Below.refl _ J).alloc r _) bC (by simp;omega) (fun k e=>by cases e;omega)));obtain⟨Lg,adr⟩:=pL [] t Lf
  have hV:df S (w.heap.size+2) Lg t [M x]:=((adr.low r).kept (uT _ _ _)).kept (gW bC r);have ads:=u Lf;clear iT Lf zd;go_wp2_with fail;refine bodyPost_ret (v:=.tuple #[.agg #[q (gq ts:Int),q sp,M x],.bool true]) (by simp[results,results96,go_sem, *]) rfl (Or.inl ⟨t,sp,x,zz,ads.d,rfl,?_,?_⟩)
  ·exact⟨Lg,(((hV.kept (it _ _ (show w.heap.size<w.heap.size+2 by omega))).kept (it _ _ (show w.heap.size<w.heap.size+2 by omega))).kept (it _ _ (show w.heap.size<w.heap.size+2 by omega))).low r⟩
  ·exact((ah.setCell ap _).setCell ap _).setCell ap _
 ·refine(GE [0] _ 1 rfl rfl K (w.heap.size+1) _ ts _ _ _ rfl zd _ _ (by simp) sk hs.1).mono ?_;rintro e S ⟨rfl,dW,bC⟩;have z2:J.heap.size+1<=S.heap.size:=by have:=bC.size;simpa using this
  have iT:=dW.flag;have ot:=nP (nO ju (.cells #[q (gq ts:Int),q sp,M x] 75)) bC r;have c3:=Z ot (i:=0) rfl;have cX:=Z ot (i:=1) rfl;have cA:=Z ot (i:=2) rfl;have g0:=aQ (i:=0) ot;have g1:=aQ (i:=1) ot;have g2:=aQ (i:=2) ot;have adq:dp S (w.heap.size+1) 2=some (.bool true):=iT;have ah:eB w S:=kF.trans ((Below.grown (Below.refl _ hz) dv r (fun k e=>by cases e;omega)).trans (Below.grown ((Below.refl _ J).alloc r _) bC (by simp;omega) (fun k e=>by cases e;omega)));have nv:=u b8;clear iT b8 zd pL;go_wp2_with fail;refine bodyPost_ret (v:=.tuple #[.agg #[q 0,q 0,.pointer none],.bool false]) (by simp[results,results96,go_sem, *]) rfl (Or.inr ⟨nv.d,rfl,?_⟩);exact((ah.setCell ap _).setCell ap _).setCell ap _
