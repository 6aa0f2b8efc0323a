import Derived.Test.YtjebdgbpopolkaaGreatDoorM00
import Derived.RangeFuncBox
import Derived.Shelf.Abstract
import Derived.WalkKit
import Derived.OwnWalkIn
import Derived.TacticsInMore
import Derived.LoopNIn
import Derived.LoopIn
import Derived.Maps.AppendAt
set_option maxHeartbeats 0
set_option maxRecDepth 100000
set_option linter.all false
namespace Go.Proofs.YtjebdgbpopolkaaGreatDoor
open Tryz
open Go.RowKit Go.Shelf
attribute [local go_sem] Oper.semAt_some
def ala(F:Fence)(n:Nat)(hF:F.fn 164)(kc:F.round=none)(ar:1<=n)(l h9 ia uB g len af:Nat)(b7:len<=100000)(om:len<=af)(bJ:h9<uB)(ah:ia<uB)(gP I0:List Nat->World->Prop)(W:World)(alb:AbidesFrom W.heap.size gP)(OK:∀pre x ih,gP pre ih->pre.length<len->YieldAt F (n-1) prog l #[.slice (some ⟨g,x,none⟩) 1 1] ih fun e aU=>(e=.returned (.bool true)/\gP (pre++[x]) aU/\Below uB ih aU)\/(e=.returned (.bool false)/\I0 (pre++[x]) aU))(uC:dp W h9 0=some (.slice (some ⟨g,0,none⟩) len af))(xa:dp W ia 0=some (q 1))(aw:gP [] W):CallsIn F n prog 164 #[.func (.yield l) #[] #[],M h9,M ia] W fun e aU=>(∃v,e=.returned v)/\((∃ys,ys=List.range len/\gP ys aU)\/(∃pre,(∃k,k<=len/\pre=List.range k)/\I0 pre aU)):=by
 refine callsIn_of_wp func164 rfl hF ?_ kc;simp only[ntmps164,List.size_toArray,di,List.length_nil,Nat.reduceAdd,Nat.reduceSub,Array.replicate_succ,Array.replicate_zero,List.push_toArray,List.append_toArray,List.nil_append,List.cons_append];gi_wp2;gi_loopw [4] (fun i wr=>∃k:Nat,k<=len/\i=q k/\gP (List.range k) wr/\Below uB W wr) (fun i _=>len-(intOf i).toNat);case atStart=>exact⟨0,bu,rfl,aw,Below.refl _ _⟩
 case round=>
  obtain⟨k,hk,rfl,I1,OL⟩:=hrel;have dG:dp wr h9 0=some (.slice (some ⟨g,0,none⟩) len af):=(OL.cell (p:=⟨h9,0,none⟩) bJ).trans uC;have fg:dp wr ia 0=some (q 1):=(OL.cell (p:=⟨ia,0,none⟩) ah).trans xa;by_cases aD:k<len
  ·have alc:gP (List.range k) wr.drew:=alb _ _ _ none I1 ⟨rfl,rfl,rfl,ap,fun _ _ _=>rfl⟩ (fun C e=>by cases e);obtain⟨fn,tmps,assign,body,hy,b1⟩:=OK _ k wr.drew alc (by rw[List.length_range];exact aD);have ut:¬af=k:=r;gi_wp2;gi_region;all_goals gi_wp2
   all_goals
    refine b1.mono ?_;rintro e lu (⟨rfl,ald,ky⟩ | ⟨rfl,ale⟩)
    ·have nt:dp lu ia 0=some (q 1):=(ky.cell (p:=⟨ia,0,none⟩) ah).trans fg;gi_wp2;go_roundw;case rel=>exact⟨k+1,r,by simp,by rw[List.range_succ];exact ald,OL.trans (⟨ky.os,ky.tape,ky.output,ky.size,ky.block⟩:Below uB wr lu)⟩
     case measure=>simp[intOf];omega
    ·gi_wp2;refine bodyPost_ret (results_none rfl _ _ _) rfl ?_;exact⟨⟨_,rfl⟩,.inr ⟨_,⟨k+1,r,(List.range_succ).symm⟩,ale⟩⟩
  ·obtain rfl:k=len:=r;gi_wp2;go_end0;exact⟨⟨_,rfl⟩,.inl ⟨_,rfl,I1⟩⟩
attribute [local go_sem] Oper.semAt_some
def alf(F:Fence)(n:Nat)(hF:F.fn 164)(kc:F.round=none)(l h9 ia:Nat)(gP:List Nat->World->Prop)(W:World)(uC:dp W h9 0=some (.slice none 0 0))(aw:gP [] W):CallsIn F n prog 164 #[.func (.yield l) #[] #[],M h9,M ia] W fun e aU=>(∃v,e=.returned v)/\gP [] aU:=by
 refine callsIn_of_wp func164 rfl hF ?_ kc;simp only[ntmps164,List.size_toArray,di,List.length_nil,Nat.reduceAdd,Nat.reduceSub,Array.replicate_succ,Array.replicate_zero,List.push_toArray,List.append_toArray,List.nil_append,List.cons_append];gi_wp2;gi_loopw [4] (fun i wr=>i=q 0/\gP [] wr/\dp wr h9 0=some (.slice none 0 0)) (fun _ _=>0);case atStart=>exact⟨rfl,aw,uC⟩
 case round=>obtain⟨rfl,I1,ai⟩:=hrel;gi_wp2;go_end0;exact⟨⟨_,rfl⟩,I1⟩
def alg(F:Fence)(n:Nat)(hF:F.fn 113)(kc:F.round=none)(a:Option Addr)(len af:Nat)(w:World):CallsIn F n prog 113 #[.slice a len af,q 1] w fun e w'=>e=.returned (.func (.func 164) #[] #[M w.heap.size,.pointer (some ⟨w.heap.size+1,0,none⟩)])/\w'=(w.alloc (.cells #[.slice a len af] 93)).alloc (.cells #[q 1] 3):=by refine callsIn_of_wp func113 rfl hF ?_ kc;simp only[ntmps113,List.size_toArray,di,List.length_nil,Nat.reduceAdd,Nat.reduceSub,Array.replicate_succ,Array.replicate_zero,List.push_toArray,List.append_toArray,List.nil_append,List.cons_append];gi_wp2;go_ret;exact⟨by simp,rfl⟩
def FE(sv:Value)(g len:Nat):Prop:=(sv=.slice none 0 0/\len=0)\/∃af,sv=.slice (some ⟨g,0,none⟩) len af/\len<=af
def AG(g:Nat)(x:Nat):Value:=.slice (some ⟨g,x,none⟩) 1 1
def alh(F:Fence)(n:Nat)(hF:F.fn 164)(kc:F.round=none)(ar:1<=n)(h9 ia uB g len:Nat)(sv:Value)(b7:len<=100000)(w:World)(bJ:h9<uB)(ah:ia<uB)(Wh:uB<=w.heap.size)(hs:FE sv g len)(uC:dp w h9 0=some sv)(xa:dp w ia 0=some (q 1)):SeqStopsK F n prog 164 #[M h9,M ia] (fun x:Nat=>#[Value.slice (some ⟨g,x,none⟩) 1 1]) (Below uB) (fun ys=>ys=List.range len) (fun pre=>∃k,k<=len/\pre=List.range k) len w:=fun l gP I0 W aO dP _ OK aw=>by
 have c1:=(aO.cell (p:=⟨h9,0,none⟩) (e0 bJ Wh)).trans uC;have c2:=(aO.cell (p:=⟨ia,0,none⟩) (e0 ah Wh)).trans xa;rcases hs with⟨rfl,rfl⟩ | ⟨af,rfl,om⟩
 ·exact(alf F n hF kc l h9 ia gP W c1 aw).mono fun e aU ⟨he,aS⟩=>⟨he,.inl ⟨_,rfl,aS⟩⟩
 ·exact ala F n hF kc ar l h9 ia uB g len af b7 om bJ ah gP I0 W dP OK c1 c2 aw
def ali:(prog.info? 93).map (fun i=>(i.zero,i.size,i.bytes))=some (some (.slice none 0 0),1,24):=ax
def alj(F:Fence)(n:Nat)(OM:F.fn 163)(I2:F.fn 164)(kc:F.round=none)(ar:3<=n)(h9 ia g len:Nat)(sv:Value)(b7:len<=100000)(w:World)(bJ:h9<w.heap.size)(ah:ia<w.heap.size)(hs:FE sv g len)(uC:dp w h9 0=some sv)(xa:dp w ia 0=some (q 1)):CallsIn F n prog 163 #[.slice none 0 0,.func (.func 164) #[] #[M h9,M ia]] w fun e aU=>∃v,e=.returned v/\aU.ownsRow w.heap.size 93 1 v len ((List.range len).map (AG g))/\eB w aU:=by
 have h1:1<=n:=r;obtain⟨i0,hi,gj,gx,cd⟩:=info_parts ali;refine callsIn_of_wp_marks func163 rfl OM ?_ kc;simp only[ntmps163,List.size_toArray,di,List.length_nil,Nat.reduceAdd,Nat.reduceSub,Array.replicate_succ,Array.replicate_zero,List.push_toArray,List.append_toArray,List.nil_append,List.cons_append];gi_wp2;have alk:=Boxed.new w 154 (.slice none 0 0);have w9:eB w (w.alloc (.cells #[.slice none 0 0] 154)):=(Below.refl _ w).alloc ap _
 refine wpIn_rangeFunc_ownG kc h1 (gf:=164) (lb:=#[M h9,M ia]) rfl I2 (enters_of func164 ax rfl) (alh F (n-1) I2 kc r h9 ia w.heap.size g len sv b7 _ bJ ah (by simp) hs ((w9.cell (p:=⟨h9,0,none⟩) bJ).trans uC) ((w9.cell (p:=⟨ia,0,none⟩) ah).trans xa)) belowK_t (belowK_b (by simp)) (Below.refl _ _) (fun _=>rfl) (fun (pre:List Nat) W=>(∃v,Boxed W w.heap.size 154 v/\W.ownsRow w.heap.size 93 1 v pre.length (pre.map (AG g))/\True)/\eB w W) (fun _ _ _=>False) (OwnFrom.and (Own.from (holdsRow_own w.heap.size w.heap.size 154 93 1 (fun pre:List Nat=>pre.length) (fun pre:List Nat=>pre.map (AG g)) (fun _ _=>True)) _) (ownFrom_below ap (by simp))) (fun _ _ _ _ _ hs _ _=>hs) ⟨⟨_,alk,World.ownsRow_nil _ _ _ _,trivial⟩,w9⟩ (fun x=>{tmps:=#[.slice none 0 0,.func (.func 164) #[] #[M h9,M ia],M w.heap.size,undef,.slice none 0 0,.slice (some ⟨g,x,none⟩) 1 1,.func (.func 164) #[] #[M h9,M ia],.slice (some ⟨g,x,none⟩) 1 1,undef,undef,undef,undef,undef],defers:=[]}) ?assign ?body ?done ?stop
 case assign=>intro l x W bV e1;gi_wp2;exact e1
 case body=>rintro l pre x W ⟨⟨v,hv,an,-⟩,bw⟩ aD;have ai:=hv.cell;have wG:(100001:Nat)<=maxLen:=K;gi_wp2_with (gi_at_builtin;refine wpListIn_append_own _ rfl _ _ 154 rfl w.heap.size 93 i0 (.slice none 0 0) 1 24 underlying154 hi gj gx cd rfl K _ _ _ rfl (an.alloc _) ⟨W.heap.size,0,none⟩ 1 1 [.slice (some ⟨g,x,none⟩) 1 1] rfl rfl (cell_one_new _ _ _) (by simp[Value.oneCell']) r r (by have:=bw.size;simp;omega) ?_;intro cF J x4 wo _;obtain⟨dM,cJ,rfl⟩:=ownsRow_succ x4;obtain⟨Wi,alm,eN,dR,ah⟩:=hv.appended K an bw.size ap x4 wo;have dG:=Wi.cell;have oV:=Wi.frozen);exact⟨dR.from _,ah,⟨_,alm,by simpa [AG] using eN,trivial⟩,bw.trans ah⟩
 case done=>rintro D ys W Bd rfl ⟨⟨v,hv,an,-⟩,bw⟩ e1;have ai:=hv.cell;gi_wp2;refine⟨by simp,.inl ⟨_,_,rfl,run_takeDeferred e1,?_⟩⟩;rw[List.length_range] at an;exact⟨_,results_tmp rfl _ _ _,v,rfl,ownsRow_putObj an _ e1 rfl,bw.trans (belowK_b (w:=w) ap W D _ _ (by simp at Bd;omega) e1 rfl rfl)⟩
 case stop=>rintro D c pre W _ _ h _;exact h.elim
def aln(F:Fence)(n:Nat)(alo:F.fn 112)(OM:F.fn 163)(I2:F.fn 164)(kc:F.round=none)(ar:4<=n)(h9 ia g len:Nat)(sv:Value)(b7:len<=100000)(w:World)(bJ:h9<w.heap.size)(ah:ia<w.heap.size)(hs:FE sv g len)(uC:dp w h9 0=some sv)(xa:dp w ia 0=some (q 1)):CallsIn F n prog 112 #[.func (.func 164) #[] #[M h9,M ia]] w fun e aU=>∃v,e=.returned v/\aU.ownsRow w.heap.size 93 1 v len ((List.range len).map (AG g))/\eB w aU:=by
 refine callsIn_of_wp func112 rfl alo ?_ kc;simp only[ntmps112,List.size_toArray,di,List.length_nil,Nat.reduceAdd,Nat.reduceSub,Array.replicate_succ,Array.replicate_zero,List.push_toArray,List.append_toArray,List.nil_append,List.cons_append];have eo:=alj F (n-1) OM I2 kc r h9 ia g len sv b7 w bJ ah hs uC xa;gi_wp2;refine⟨fun _=>r,?_⟩;gi_at_call 163;refine eo.mono ?_;rintro e w' ⟨v,rfl,h1,H⟩;gi_wp2;go_ret;exact⟨_,rfl,h1,H⟩
def alp(a:Option Addr)(len af:Nat)(w:World):ey 113 #[.slice a len af,q 1] w fun e w'=>e=.returned (.func (.func 164) #[] #[M w.heap.size,.pointer (some ⟨w.heap.size+1,0,none⟩)])/\w'=(w.alloc (.cells #[.slice a len af] 93)).alloc (.cells #[q 1] 3):=(callsIn_wide (n:=9)).1 (alg Fence.wide 9 trivial rfl a len af w)
def alq(h9 ia g len:Nat)(sv:Value)(b7:len<=100000)(w:World)(bJ:h9<w.heap.size)(ah:ia<w.heap.size)(hs:FE sv g len)(uC:dp w h9 0=some sv)(xa:dp w ia 0=some (q 1)):ey 112 #[.func (.func 164) #[] #[M h9,M ia]] w fun e aU=>∃v,e=.returned v/\aU.ownsRow w.heap.size 93 1 v len ((List.range len).map (AG g))/\eB w aU:=(callsIn_wide (n:=9)).1 (aln Fence.wide 9 trivial trivial trivial rfl r h9 ia g len sv b7 w bJ ah hs uC xa)
