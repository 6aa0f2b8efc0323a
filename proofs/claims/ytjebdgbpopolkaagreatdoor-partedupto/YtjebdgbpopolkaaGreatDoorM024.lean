import Derived.Test.YtjebdgbpopolkaaGreatDoorM023
import Derived.Test.YtjebdgbpopolkaaGreatDoorM022
set_option maxHeartbeats 0
set_option maxRecDepth 100000
set_option linter.all false
namespace Go.Proofs.YtjebdgbpopolkaaGreatDoor
open Tryz
open Go.RowKit Go.Sort Go.Shelf
open bS
section
variable{w:World}{base af g n:Nat}{E:TypeId}
variable {α:Type} [Inhabited α] (enc:α->List Value) (k:Nat) (iS:0<k) (hk:∀x,(enc x).length=k)
theorem sP:∀(enc:α->List Value) (k:Nat) (_:0<k) (_:∀x,(enc x).length=k) (l:List α) (t:Nat),t<l.length*k->(l.flatMap enc)[t]?=some ((enc (l[t/k]!))[t%k]!)
 | _,_,_,_,[],t,h=>by simp at h
 | enc,k,iS,hk,a::C,t,h=>by
  rw[List.flatMap_cons];by_cases au:t<k
  ·rw[List.getElem?_append_left (by rw[hk];exact au),Nat.div_eq_of_lt au,Nat.mod_eq_of_lt au];rw[fC (by rw[hk];exact au)];show _=some ((enc a)[t]!);rw[getElem!_pos (enc a) t (by rw[hk];exact au)]
  ·have H:t-k<C.length*k:=by rw[di,Nat.add_mul,Nat.one_mul] at h;omega
   rw[List.getElem?_append_right (by rw[hk];omega),hk,sP enc k iS hk C (t-k) H];obtain⟨bp,rfl⟩:∃bp,t=bp+k:=⟨t-k,r⟩;rw[Nat.add_sub_cancel,Nat.add_div_right _ iS,Nat.add_mod_right];rfl
theorem B9{β:Type}:∀(enc:β->List Value) (k:Nat) (_:∀x,(enc x).length=k) (l:List β),(l.flatMap enc).length=l.length*k
 | _,_,_,[]=>by simp
 | enc,k,hk,a::C=>by rw[List.flatMap_cons,cu,hk,B9 enc k hk C,di,Nat.add_mul,Nat.one_mul,Nat.add_comm]
theorem ahC(aq:Array α)(i:Nat):aq[i]! = aq.toList[i]!:=by simp[Array.getElem!_eq_getD,Array.getD,List.getElem!_eq_getElem?_getD];split<;>simp_all
theorem Uv(enc:α->List Value)(k:Nat)(iS:0<k)(hk:∀x,(enc x).length=k)(aq:Array α):(flatK enc k aq).toList=aq.toList.flatMap enc:=by
 apply List.ext_getElem?;intro t;by_cases au:t<aq.size*k
 ·rw[sP enc k iS hk aq.toList t (by simpa using au),Array.getElem?_toList,Array.getElem?_eq_getElem (by simpa using au)];have:=get_flatK enc k aq t au;rw[getElem!_pos _ t (by simpa using au)] at this;rw[this,ahC]
 ·rw[List.getElem?_eq_none (by simpa using au),List.getElem?_eq_none (by rw[B9 enc k hk];simpa using au)]
theorem ahD(F ay:Array Value)(h:F.size<=ay.size):(putCells id 0 F ay).toList.take F.size=F.toList:=by
 apply List.ext_getElem?;intro t;by_cases au:t<F.size
 ·rw[List.getElem?_take_of_lt au,Array.getElem?_toList];unfold putCells;rw[Array.getElem?_mapIdx,Array.getElem?_eq_getElem r];simp only[eQ];rw[if_pos r,Nat.sub_zero,getElem!_pos F t au,Array.getElem?_toList,Array.getElem?_eq_getElem au];rfl
 ·rw[List.getElem?_eq_none (by simp;omega),List.getElem?_eq_none (by simpa using au)]
theorem ahE(F ay:Array Value):(putCells id 0 F ay).size=ay.size:=by unfold putCells;simp
theorem Uw{ay:Array Value}(R:w.heap[g]?=some (.cells ay E (0,0)))(enc:α->List Value)(k:Nat)(aq:Array α)(os:Array Obj):(sortWorldK enc k w g 0 n aq os).heap[g]?=some (.cells (putCells id 0 (flatK enc k aq) ay) E (0,0))/\∀j,j≠g->j<w.heap.size->(sortWorldK enc k w g 0 n aq os).heap[j]?=w.heap[j]?:=by
 have ef:=(br R).1;constructor
 ·show((w.heap.modify g (onCells _))++os)[g]?=_;rw[Array.getElem?_append_left (by simpa using ef),Array.getElem?_modify,if_pos rfl,R];rfl
 ·intro j aS X;show((w.heap.modify g (onCells _))++os)[j]?=_;rw[Array.getElem?_append_left (by simpa using X),Array.getElem?_modify,if_neg (Ne.symm aS)]
theorem Ux(enc:α->List Value)(k:Nat)(iS:0<k)(hk:∀x,(enc x).length=k){l lZ:List α}(ag:w.ownsRow base E k (.slice (some ⟨g,0,none⟩) l.length af) l.length (l.flatMap enc))(iA:Array α)(bb:iA.toList=lZ)(X:lZ.length=l.length)(os:Array Obj):(sortWorldK enc k w g 0 n iA os).ownsRow base E k (.slice (some ⟨g,0,none⟩) l.length af) l.length (lZ.flatMap enc)/\Below base w (sortWorldK enc k w g 0 n iA os):=by
 rcases ag.2 with⟨e,_⟩ | ⟨dM,cJ,ay,e,q1,bN,fR,iK,j4,km⟩
 ·cases e
 injection e with Y _ bm;injection Y with Y;injection Y with Y;subst Y bm;obtain⟨s1,s2⟩:=Uw (n:=n) bN enc k iA os;have ahF:iA.size=l.length:=by rw[<-ax7,bb,X]
 have EV:(flatK enc k iA).size=l.length*k:=by rw[size_flatK,ahF]
 refine⟨⟨by rw[B9 enc k hk,X],.inr ⟨g,af,_,rfl,q1,s1,fR,iK,by rw[ahE];exact j4,?_⟩⟩,⟨rfl,rfl,rfl,?_,fun j aS=>?_⟩⟩
 ·have hle:(flatK enc k iA).size<=ay.size:=by rw[EV,j4];exact Nat.mul_le_mul_right _ fR
  have:=ahD (flatK enc k iA) ay hle;rw[EV] at this;rw[this,Uv enc k iS hk,bb]
 ·show w.heap.size<=((w.heap.modify g (onCells _))++os).size;rw[Array.size_append,Array.size_modify];omega
 ·rcases Nat.lt_or_ge j w.heap.size with h | h
  ·exact s2 j r h
  ·have:=(br bN).1;omega
theorem Uy(enc:α->List Value)(k:Nat)(iS:0<k)(hk:∀x,(enc x).length=k){l:List α}(ag:w.ownsRow base E k (.slice (some ⟨g,0,none⟩) l.length af) l.length (l.flatMap enc)):HoldsK enc k w g 0 l.toArray/\g<w.heap.size:=by
 rcases ag.2 with⟨e,_⟩ | ⟨dM,cJ,ay,e,q1,bN,fR,iK,j4,km⟩
 ·cases e
 injection e with Y _ bm;injection Y with Y;injection Y with Y;subst Y bm;refine⟨fun j aS=>⟨?_,aQ bN⟩,(br bN).1⟩;have lv:j<l.length*k:=by simpa using aS
 have h1:(ay.toList.take (l.length*k))[j]?=some ((flatK enc k l.toArray)[j]!):=by rw[km,<-Uv enc k iS hk l.toArray,Array.getElem?_toList,Array.getElem?_eq_getElem aS,getElem!_pos _ j aS]
 rw[List.getElem?_take_of_lt lv,Array.getElem?_toList] at h1;rw[ax1];exact Z bN h1
end
