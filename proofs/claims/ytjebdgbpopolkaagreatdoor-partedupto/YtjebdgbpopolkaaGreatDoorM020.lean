import Derived.Test.YtjebdgbpopolkaaGreatDoorM002
import Derived.Test.YtjebdgbpopolkaaGreatDoorM003
set_option maxHeartbeats 0
set_option maxRecDepth 100000
set_option linter.all false
namespace Go.Proofs.YtjebdgbpopolkaaGreatDoor
open Tryz
open Go.RowKit
open bS
variable{s:e6}
def Ul(s:e6)(t:List UInt8):Prop:=t.length<=s.size/\(t.head?=some 39->2<=t.length)
def ER(s:e6)(a e:Nat)(he:e<=s.size):(sub s a e).length=e-a:=by rw[sub,mc,ByteArray.size_extract];omega
def MU(s:e6)(a e:Nat)(h:a<e)(he:e<=s.size):(sub s a e).head?=some (s[a]'r):=by rw[sub,ByteArray.data_extract,Array.toList_extract,List.head?_eq_getElem?];simp only[List.extract];rw[List.getElem?_take_of_lt r,List.getElem?_drop,Nat.add_zero,fC (by rw[mc];omega)];rfl
def ahe{k:Nat}{last t:List UInt8}{jY:Nat}(hk:k<s.size)(h:kW s k last=some (some t,jY)):Ul s t:=by
 have aD:=A3 hk h;have g1:=pv isLet s (k+1);have g2:=pv cI s (k+1);have g3:=pv gG s (k+1);have Y:=s5 isLet s (k+1) hk;have am:=s5 cI s (k+1) hk;unfold kW at h;rw[pu s k hk] at h;repeat' split at h
 all_goals first | (cases h;done) | skip
 ·rename_i X _;simp only[Option.some.injEq,Prod.mk.injEq] at h;obtain⟨rfl,rfl⟩:=h;refine⟨by rw[ER _ _ _ Y];omega,fun cf=>?_⟩;rw[MU _ _ _ r Y] at cf;rw[bx cf] at X;exact absurd X K
 ·rename_i X bb _;simp only[Option.some.injEq,Prod.mk.injEq] at h;obtain⟨rfl,rfl⟩:=h;refine⟨by rw[ER _ _ _ am];omega,fun cf=>?_⟩;rw[MU _ _ _ r am] at cf;have Um:=bx cf;have hm:pt s k last=false:=by rw[pt,pu s k hk,Um];rfl
  rw[Um,hm] at bb;exact absurd bb K
 ·rename_i ae _;simp only[Option.some.injEq,Prod.mk.injEq] at h;obtain⟨rfl,rfl⟩:=h;have hE:=aD.2;simp only at hE;refine⟨by rw[ER _ _ _ hE];omega,fun _=>by rw[ER _ _ _ hE];omega⟩
 ·rename_i ae _;simp only[Option.some.injEq,Prod.mk.injEq] at h;obtain⟨rfl,rfl⟩:=h;refine⟨by rw[ER _ _ _ r];omega,fun cf=>?_⟩;rw[MU _ _ _ r r] at cf;rw[bx cf] at ae;exact absurd rfl ae
def ahf:∀(f k:Nat) (last:List UInt8) (l:List (List UInt8)),oR s f k last=some l->∀t∈l,Ul s t:=by
 intro f;induction f with
 | zero=>intro k last l h;cases h
 | succ f aH=>
  intro k last l h t au;rw[oR] at h;by_cases hk:k<s.size
  ·rw[if_pos hk] at h;cases hs:kW s k last with
   | none=>rw[hs] at h;cases h
   | some x=>
    obtain⟨o,jY⟩:=x;rw[hs] at h;cases o with
    | none=>exact aH _ _ _ h t au
    | some t0=>
     simp only[Option.map_eq_some_iff] at h;obtain⟨lZ,me,rfl⟩:=h;rcases List.mem_cons.1 au with rfl | vg
     ·exact ahe hk hs
     ·exact aH _ _ _ me t vg
  ·rw[if_neg hk] at h;obtain rfl:=bx h;cases au
