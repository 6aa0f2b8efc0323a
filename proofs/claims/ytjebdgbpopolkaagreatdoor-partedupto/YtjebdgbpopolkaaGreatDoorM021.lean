import Derived.Test.YtjebdgbpopolkaaGreatDoorM012
import Derived.Test.YtjebdgbpopolkaaGreatDoorM020
set_option maxHeartbeats 0
set_option maxRecDepth 100000
set_option linter.all false
namespace Go.Proofs.YtjebdgbpopolkaaGreatDoor
open Tryz
open Go.RowKit
open bS
variable{s:e6}{ts:e4}{x:e4×aL}
def ahg(hs:s.size<=400)(X:ts.length<=s.size)(h:ku s=some (ts.map (·.data.toList))):gz ts:=by have av:=ahf _ _ _ _ h;refine⟨r,fun t au=>?_⟩;have:=(av _ (List.mem_map_of_mem au)).1;rw[mc] at this;omega
def df.drew{w:World}{lo hi:Nat}{t:aL}{vs:List Value}(h:df w lo hi t vs):df w.drew lo hi t vs:=df.kept (w:=w) (w':=w.drew) (lo:=lo) (fun _ _ _=>rfl) h
def ui:Value:=.agg #[q 0,q 0,.pointer none]
def ahh(s:e6)(w:World)(e:Ending)(w':World):Prop:=(∃(v:Value) (ts:e4) (t:aL) (sp:Int) (x:Nat),Hid (sp=mM ts)/\s.size<=400/\ku s=some (ts.map (·.data.toList))/\tl ts/\gz ts/\kE ts=some ([],t)/\e=.returned (.tuple #[v,.agg #[q (gq ts:Int),q sp,M x],.bool true])/\w'.ownsRow w.heap.size 237 2 v ts.length (gn ts)/\(∃hi,df w' w.heap.size hi t [M x])/\eB w w')\/((400<s.size\/ku s=none\/∃ts:e4,ku s=some (ts.map (·.data.toList))/\∀t,kE ts≠some ([],t))/\(∃v,e=.returned (.tuple #[v,ui,.bool false]))/\eB w w')
def Un(s:e6)(w:World)(R:et w):ey 63 #[.string s] w (ahh s w):=by
 have k0:=R.js;have tL:=bH w (.cells #[q 0,q 0,.pointer none] 75);have kF:eB w (w.alloc (.cells #[q 0,q 0,.pointer none] 75)):=cT;by_cases aK:400<s.size
 ·have sw:(400:Int)<(s.size:Int):=r;go_enter func63,ntmps63;go_wp2_with fail;refine bodyPost_ret (v:=.tuple #[.slice none 0 0,ui,.bool false]) (by simp[results,results63,go_sem,ui]) rfl (Or.inr ⟨Or.inl aK,⟨_,rfl⟩,kF⟩)
 ·have sw:(s.size:Int)<=400:=r;go_enter func63,ntmps63;go_wp2_with fail;have th:et (w.alloc (.cells #[q 0,q 0,.pointer none] 75)):=R.below kF k0;have z0:(w.alloc (.cells #[q 0,q 0,.pointer none] 75)).heap.size=w.heap.size+1:=by simp
  generalize w.alloc (.cells #[q 0,q 0,.pointer none] 75)=hz at *;refine(Kr s hz r).mono ?_;rintro e wc ⟨rfl,mV⟩;have tL:=(mV.block w.heap.size r).trans tL;have kF:eB w wc:=kF.trans (mV.mono r);have Uo:w.heap.size+1<=wc.heap.size:=by have:=mV.size;omega
  have th:et wc:=R.below kF k0;clear z0 mV;go_wp2_with fail;refine(abp s wc r th).mono ?_;rintro e J (⟨v,ts,mi,mf,b7,rfl,iF,bJ⟩ | ⟨b8,rfl,bJ⟩)
  ·have b3:=bJ.size;have iF:=ei Uo iF;have bJ:=bJ.mono Uo;have ju:=(bJ.block w.heap.size r).trans tL;have Af:eB w J:=kF.trans (bJ.mono r);have nL:=ahg r b7 mi;have cK:=u (adp v ts J (ei bu iF) (R.below Af k0) nL mf);have wL:=u mi;have Ag:=u nL;have zV:=u mf;clear mi nL mf;obtain⟨aC,fj,rfl⟩:=cG iF;go_wp2_with (go_at_call 96;refine cK.d.mono ?_);rintro e S (⟨t,sp,x,zz,c4,rfl,⟨nM,fz⟩,ah⟩ | ⟨b8,rfl,ah⟩)
   ·have z2:=ah.size;have ot:=(ah.block w.heap.size r).trans ju;have MV:eB w S:=Af.trans (ah.mono r);have ej:=ee iF ah;have iz:=u c4;clear c4;have rQ:=nO ot (.cells #[q (gq ts:Int),q sp,M x] 75);have fq:=bH S (.cells #[q (gq ts:Int),q sp,M x] 75);have cg:eB w (S.alloc (.cells #[q (gq ts:Int),q sp,M x] 75)):=MV.alloc r _;have ie:(S.alloc (.cells #[q (gq ts:Int),q sp,M x] 75)).ownsRow (w.heap.size+1) 237 2 (.slice aC ts.length fj) ts.length (gn ts):=ej.alloc _;have oo:df (S.alloc (.cells #[q (gq ts:Int),q sp,M x] 75)) (w.heap.size+1) nM t [M x]:=(fz.low r).kept (uT _ _ _);clear kF bJ iF Af fz ej;go_upto_region 7 with fail;generalize S.alloc (.cells #[q (gq ts:Int),q sp,M x] 75)=lu at *
    have eR:=Z fq (i:=0) rfl;have l1:=Z fq (i:=1) rfl;have bT:=Z fq (i:=2) rfl;have c3:=Z rQ (i:=0) rfl;have cX:=Z rQ (i:=1) rfl;have cA:=Z rQ (i:=2) rfl;have g0:=aQ (i:=0) rQ;have g1:=aQ (i:=1) rQ;have g2:=aQ (i:=2) rQ;go_region_law (fail);all_goals
     go_wp2_with fail;refine bodyPost_ret (v:=.tuple #[.slice aC ts.length fj,.agg #[q (gq ts:Int),q sp,M x],.bool true]) (by simp[results,results63,go_sem, *]) rfl (Or.inl ⟨_,ts,t,sp,x,zz,r,wL.d,zV.d,Ag.d,iz.d,rfl,?_,?_,?_⟩)
     ·exact ei r ((it _ _ (show w.heap.size<w.heap.size+1 by omega)).row ((it _ _ (show w.heap.size<w.heap.size+1 by omega)).row ((it _ _ (show w.heap.size<w.heap.size+1 by omega)).row ie.drew)))
     ·exact⟨nM,((((oo.kept (it _ _ (show w.heap.size<w.heap.size+1 by omega))).kept (it _ _ (show w.heap.size<w.heap.size+1 by omega))).kept (it _ _ (show w.heap.size<w.heap.size+1 by omega))).low (Nat.le_succ _)).drew⟩
     ·exact((cg.drew.setCell ap _).setCell ap _).setCell ap _
   ·have z2:=ah.size;have ot:=(ah.block w.heap.size r).trans ju;have MV:eB w S:=Af.trans (ah.mono r);have nv:=u b8;clear b8;have rQ:=nO ot (.cells #[q 0,q 0,.pointer none] 75);have fq:=bH S (.cells #[q 0,q 0,.pointer none] 75);have cg:eB w (S.alloc (.cells #[q 0,q 0,.pointer none] 75)):=MV.alloc r _;clear kF bJ iF Af;go_upto_region 7 with fail;generalize S.alloc (.cells #[q 0,q 0,.pointer none] 75)=lu at *;have eR:=Z fq (i:=0) rfl;have l1:=Z fq (i:=1) rfl;have bT:=Z fq (i:=2) rfl;have c3:=Z rQ (i:=0) rfl;have cX:=Z rQ (i:=1) rfl;have cA:=Z rQ (i:=2) rfl;have g0:=aQ (i:=0) rQ;have g1:=aQ (i:=1) rQ;have g2:=aQ (i:=2) rQ;go_region_law (fail);all_goals
     go_wp2_with fail;refine bodyPost_ret (v:=.tuple #[.slice aC ts.length fj,ui,.bool false]) (by simp[results,results63,go_sem,ui, *]) rfl (Or.inr ⟨Or.inr (Or.inr ⟨ts,wL.d,nv.d⟩),⟨_,rfl⟩,?_⟩);exact((cg.drew.setCell ap _).setCell ap _).setCell ap _
  ·have b3:=bJ.size;have ju:=(bJ.block w.heap.size r).trans tL;have Af:eB w J:=kF.trans (bJ.mono r);have nv:=u b8;clear b8;have c3:=Z ju (i:=0) rfl;have cX:=Z ju (i:=1) rfl;have cA:=Z ju (i:=2) rfl;have g0:=aQ (i:=0) ju;have g1:=aQ (i:=1) ju;have g2:=aQ (i:=2) ju;go_wp2_with fail;refine bodyPost_ret (v:=.tuple #[.slice none 0 0,ui,.bool false]) (by simp[results,results63,go_sem,ui, *]) rfl (Or.inr ⟨Or.inr (Or.inl nv.d),⟨_,rfl⟩,?_⟩);exact((Af.setCell ap _).setCell ap _).setCell ap _
def MW{l:e4}(X:l.length<=500)(h:ru l=some x):fQ 4500 2 x.2/\dep x.2<=4500:=by unfold ru at h;exact⟨(adv 4500 _ r).2.2.1 _ _ h r,bX (adw _ _ _ _ h) r⟩
def MX(X:ts.length<=400)(h:kE ts=some x):fQ 4500 2 x.2/\dep x.2<=4500:=by
 unfold kE at h;have au:ts.tail.length<=ts.length:=mm ts;split at h
 ·obtain⟨a,ak,h⟩:=aV h;have:=lp ak;exact MW r h
 split at h
 ·exact MW r h
 ·exact MW r h
def ahi:∀(f k:Nat) (last:List UInt8) (l:List (List UInt8)),k<=s.size->oR s f k last=some l->l.length<=s.size-k:=by
 intro f;induction f with
 | zero=>intro k last l _ h;cases h
 | succ f aH=>
  intro k last l iS h;rw[oR] at h;by_cases hk:k<s.size
  ·rw[if_pos hk] at h;cases hs:kW s k last with
   | none=>rw[hs] at h;cases h
   | some x=>
    obtain⟨o,jY⟩:=x;have aD:=A3 hk hs;rw[hs] at h;cases o with
    | none=>have:=aH _ _ _ aD.2 h;have h1:=aD.1;have H:=aD.2;simp only at h1 H;omega
    | some t0=>simp only[Option.map_eq_some_iff] at h;obtain⟨lZ,me,rfl⟩:=h;have:=aH _ _ _ aD.2 me;have h1:=aD.1;have H:=aD.2;simp only at h1 H this;rw[di];omega
  ·rw[if_neg hk] at h;obtain rfl:=bx h;exact bu
def MY(h:ku s=some (ts.map (·.data.toList))):ts.length<=s.size:=by have:=ahi _ _ _ _ bu h;simpa using this
