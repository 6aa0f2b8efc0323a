import Derived.Test.YtjebdgbpopolkaaGreatDoorM001
set_option maxHeartbeats 0
set_option maxRecDepth 100000
set_option linter.all false
namespace bS
def axW{g:az->List (je)->az×List (je)}{p:Nat×List al->Bool}{m:Nat}{P cm:je}(R:∀C∈cm,∀st aP,st.ad=P++[C]->st.dE=false->st.eP+m<=20000->∃fi,g st aP=({st with eP:=st.eP+m,bF:=fi},if p C then aP++[[C]] else aP)):∀(l:je),(∀C∈l,C∈cm)->∀(st:az) (aP:List (je)),st.ad=P->st.dE=false->st.eP+l.length*m<=20000->∃fi,oz g l st aP=({st with eP:=st.eP+l.length*m,bF:=fi},aP++(l.filter p).map fun C=>[C])
 | [],_,st,aP,_,_,_=>⟨st.bF,by simp[oz]⟩
 | C::l,X,st,aP,aw,h1,H=>by
  obtain⟨ad,bF,eP,dE⟩:=st;simp only at aw h1 H;subst aw h1;rw[di,Nat.succ_mul] at H;obtain⟨fi,e⟩:=R C (X C (ax6 ..)) ⟨ad++[C],bF,eP,false⟩ aP rfl rfl (by show eP+m<=20000;omega);rw[oz];simp only[e];obtain⟨EX,am⟩:=axW R l (fun x aa=>X x (List.mem_cons_of_mem _ aa)) ⟨ad,fi,eP+m,false⟩ (if p C then aP++[[C]] else aP) rfl rfl (by show eP+m+l.length*m<=20000;omega);have au:(ad++[C]).take ((ad++[C]).length-1)=ad:=by simp
  refine⟨EX,?_⟩;rw[au,am];simp only[di,Nat.succ_mul];refine Prod.ext ?_ ?_
  ·show az.mk _ _ _ _=az.mk _ _ _ _;congr 1;show eP+m+l.length*m=eP+(l.length*m+m);omega
  ·show _=aP++List.map _ (List.filter p (C::l));by_cases aj:p C=true
   ·simp[aj]
   ·simp[aj]
def axX{a8:az->Bool×az}{ba:az->List al×az}{f:Nat×List al->List al}{P:je}(Cu:∀s,a8 s=(true,s)):∀(l:je),(∀C∈l,∀s,s.ad=P++[C]->ba s=(f C,s))->∀(aP:List (List al×List (je))) (st:az),st.ad=P->st.dE=false->∃fi,k8 a8 ba (l.map fun C=>[[C]]) aP st=(aP++l.map (fun C=>(f C,[[C]])),{st with bF:=fi})
 | [],_,aP,st,_,_=>⟨st.bF,by simp[k8]⟩
 | C::l,hv,aP,st,aw,h1=>by
  obtain⟨ad,bF,eP,dE⟩:=st;simp only at aw h1;subst aw h1;rw[List.map_cons,k8];simp only[Bool.false_eq_true,if_false];have e:mp a8 ba [[C]] ⟨ad,bF,eP,false⟩=([(f C,[[C]])],⟨ad,[[C]],eP,false⟩):=by unfold mp;have Hj:=hv C (ax6 ..) ⟨ad++[C],[[C]],eP,false⟩ rfl;simp[Cu,Hj]
  rw[e];obtain⟨fi,aH⟩:=axX Cu l (fun x aa=>hv x (List.mem_cons_of_mem _ aa)) (aP++[(f C,[[C]])]) ⟨ad,[[C]],eP,false⟩ rfl rfl;exact⟨fi,by rw[aH];simp⟩
def axY{B:List bG}{O:Int}{e wh:aL}{s:e6×e6}{I:List eO}{st:az}{cm:je}(b1:gC B s=cm)(ak:dJ e=false){p:Nat×List al->Bool}{m:Nat}(hk:∀C∈cm,∀fu,fu.ad=st.ad++[C]->fu.dE=false->fu.eP+m<=20000->∃fi,iZ (bR B O wh (I++ea B [s])) wh fu=(p C,{fu with eP:=fu.eP+m,bF:=fi})){f:Nat×List al->List al}(hv:∀C∈cm,∀fu,fu.ad=st.ad++[C]->hL (I++ea B [s]) O e fu=(f C,fu))(av:st.dE=false)(ar:st.eP+cm.length+cm.length*m<=20000):∃fi,(bR B O (.query e [s] wh .nil .nil) I st).2=((cm.filter p).map (fun C=>(f C,[[C]])),{st with eP:=st.eP+cm.length+cm.length*m,bF:=fi}):=by
 have ai:fY B [s]=cm.length:=by simp[fY,b1]
 obtain⟨ad,bF,eP,dE⟩:=st;simp only at hk hv av ar;subst av;have axZ:∀n,eP+n<=20000->mQ n ⟨ad,bF,eP,false⟩=⟨ad,bF,eP+n,false⟩:=fun n h=>by unfold mQ;simp only[Bool.false_or];rw[ax2 r]
 have PN:∃fi,iJ B [s] (iZ (bR B O wh (I++ea B [s])) wh) ⟨ad,bF,eP,false⟩=(⟨ad,fi,eP+cm.length+cm.length*m,false⟩,(cm.filter p).map fun C=>[C]):=by
  unfold iJ;rw[ai];split
  ·rename_i aw;have zJ:cm=[]:=ma aw;subst zJ;exact⟨bF,by rw[axZ 0 r];simp⟩
  ·rw[axZ cm.length r,hB,if_neg (fun h=>by cases h),b1];obtain⟨fi,e⟩:=axW (g:=hB B (fun axg aP=>((iZ (bR B O wh (I++ea B [s])) wh axg).2,if (iZ (bR B O wh (I++ea B [s])) wh axg).1 then aP++[(iZ (bR B O wh (I++ea B [s])) wh axg).2.ad.drop (az.ad ⟨ad,bF,eP,false⟩).length] else aP)) []) (p:=p) (m:=m) (P:=ad) (cm:=cm) (fun C ag fu aP h1 H ab=>by
    obtain⟨fi,e⟩:=hk C ag fu h1 H ab;refine⟨fi,?_⟩;rw[hB,if_neg (by rw[H];decide),e];have bb:fu.ad.drop ad.length=[C]:=by rw[h1];simp
    simp only[bb]) cm (fun C h=>h) ⟨ad,bF,eP+cm.length,false⟩ [] rfl rfl ar
   exact⟨fi,by rw[e,List.nil_append]⟩
 obtain⟨fi,PN⟩:=PN;have R:mR e .nil .nil (hL (I++ea B [s]) O .nil) (⟨ad,fi,eP+cm.length+cm.length*m,false⟩,(cm.filter p).map fun C=>[C])=((cm.filter p).map fun C=>[[C]],⟨ad,fi,eP+cm.length+cm.length*m,false⟩):=by unfold mR wD;rw[ak];simp[isNone]
 obtain⟨EX,h⟩:=axX (a8:=iZ (bR B O .nil (I++ea B [s])) .nil) (ba:=hL (I++ea B [s]) O e) (f:=f) (P:=ad) (fun st=>rfl) (cm.filter p) (fun C ag=>hv C (List.mem_filter.1 ag).1) [] ⟨ad,fi,eP+cm.length+cm.length*m,false⟩ rfl rfl;refine⟨EX,?_⟩;rw[bR];simp only[];rw[PN,R];rw[List.nil_append] at h;exact h
end bS
