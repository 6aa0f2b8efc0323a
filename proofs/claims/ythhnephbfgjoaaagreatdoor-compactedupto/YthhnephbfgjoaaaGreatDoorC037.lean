import Derived.Test.YthhnephbfgjoaaaGreatDoorC00
import Derived.RangeFuncBox
import Derived.Shelf.Abstract
import Derived.WalkKit
import Derived.OwnWalkIn
import Derived.TacticsInMore
import Derived.LoopNIn
import Derived.LoopIn
set_option maxHeartbeats 0
set_option maxRecDepth 100000
set_option linter.all false
namespace Go.Proofs.ax0
open Tryz
open Go.RowKit Go.Shelf
attribute [local go_sem] Oper.semAt_some
def ala(F:Fence)(n:Nat)(hF:F.fn 185)(kc:F.round=none)(ar:1<=n)(l h9 ia uB g len af:Nat)(b7:len<=100000)(om:len<=af)(bJ:h9<uB)(ah:ia<uB)(gP I0:List Nat->World->Prop)(W:World)(alb:AbidesFrom W.heap.size gP)(OK:∀pre x ih,gP pre ih->pre.length<len->YieldAt F (n-1) prog l #[.slice (some ⟨g,x,none⟩) 1 1] ih fun e aU=>(e=.returned (.bool true)/\gP (pre++[x]) aU/\Below uB ih aU)\/(e=.returned (.bool false)/\I0 (pre++[x]) aU))(uC:dp W h9 0=some (.slice (some ⟨g,0,none⟩) len af))(xa:dp W ia 0=some (q 1))(aw:gP [] W):CallsIn F n prog 185 #[.func (.yield l) #[] #[],M h9,M ia] W fun e aU=>(∃v,e=.returned v)/\((∃ys,ys=List.range len/\gP ys aU)\/(∃pre,(∃k,k<=len/\pre=List.range k)/\I0 pre aU)):=by
 refine callsIn_of_wp func185 rfl hF ?_ kc;simp only[ntmps185,List.size_toArray,di,List.length_nil,Nat.reduceAdd,Nat.reduceSub,Array.replicate_succ,Array.replicate_zero,List.push_toArray,List.append_toArray,List.nil_append,List.cons_append];gi_wp2;gi_loopw [4] (fun i wr=>∃k:Nat,k<=len/\i=q k/\gP (List.range k) wr/\Below uB W wr) (fun i _=>len-(intOf i).toNat);case atStart=>exact⟨0,bu,rfl,aw,Below.refl _ _⟩
 case round=>
  obtain⟨k,hk,rfl,I1,OL⟩:=hrel;have dG:dp wr h9 0=some (.slice (some ⟨g,0,none⟩) len af):=(OL.cell (p:=⟨h9,0,none⟩) bJ).trans uC;have fg:dp wr ia 0=some (q 1):=(OL.cell (p:=⟨ia,0,none⟩) ah).trans xa;by_cases aD:k<len
  ·have alc:gP (List.range k) wr.drew:=alb _ _ _ none I1 ⟨rfl,rfl,rfl,ap,fun _ _ _=>rfl⟩ (fun C e=>by cases e);obtain⟨fn,tmps,assign,body,cn,b1⟩:=OK _ k wr.drew alc (by rw[List.length_range];exact aD);have ut:¬af=k:=r;gi_wp2;gi_region;all_goals gi_wp2
   all_goals
    refine b1.mono ?_;rintro e lu (⟨rfl,ald,ky⟩ | ⟨rfl,ale⟩)
    ·have nt:dp lu ia 0=some (q 1):=(ky.cell (p:=⟨ia,0,none⟩) ah).trans fg;gi_wp2;go_roundw;case rel=>exact⟨k+1,r,by simp,by rw[List.range_succ];exact ald,OL.trans (⟨ky.os,ky.tape,ky.output,ky.size,ky.block⟩:Below uB wr lu)⟩
     case measure=>simp[intOf];omega
    ·gi_wp2;refine bodyPost_ret (results_none rfl _ _ _) rfl ?_;exact⟨⟨_,rfl⟩,.inr ⟨_,⟨k+1,r,(List.range_succ).symm⟩,ale⟩⟩
  ·obtain rfl:k=len:=r;gi_wp2;go_end0;exact⟨⟨_,rfl⟩,.inl ⟨_,rfl,I1⟩⟩
