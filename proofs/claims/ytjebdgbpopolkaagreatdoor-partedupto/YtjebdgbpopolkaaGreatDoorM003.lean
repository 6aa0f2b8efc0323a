import Derived.Test.YtjebdgbpopolkaaGreatDoorM00
import Derived.WalkSpells
import Derived.WalkLawsBesides
import Derived.Test.YtjebdgbpopolkaaGreatDoorM001
set_option maxHeartbeats 0
set_option maxRecDepth 100000
set_option linter.all false
namespace Go.Proofs.YtjebdgbpopolkaaGreatDoor
open Tryz
open Go.RowKit
variable{last s:e6}{k jY:Nat}{ts:e4}
def heap_setCell{w:World}{b o:Nat}{cs:Array Value}{t:TypeId}{m:Nat×Nat}(h:w.heap[b]?=some (.cells cs t m))(x:Value):(w.setCell ⟨b,o,none⟩ x).heap[b]?=some (.cells (cs.setIfInBounds o x) t m):=by obtain⟨aD,hk⟩:=br h;show(w.heap.modify b _)[b]?=_;rw[Array.getElem?_eq_getElem (by rw[Array.size_modify];exact aD),Array.getElem_modify_self,hk];rfl
def Gh(w:World)(b o:Nat)(x:Value):w.grownBy (w.setCell ⟨b,o,none⟩ x) (some b):=⟨rfl,rfl,rfl,by show w.heap.size<=(w.heap.modify b _).size;rw[Array.size_modify];exact ap,fun k _ hk=>Below.heap_setCell _ _ _ k (fun e=>hk (by rw[e]))⟩
def uQ(w:World)(C:Option Nat):w.grownBy w C:=⟨rfl,rfl,rfl,ap,fun _ _ _=>rfl⟩
def Zr(w:World)(C:Option Nat):w.grownBy w.drew C:=⟨rfl,rfl,rfl,ap,fun _ _ _=>rfl⟩
def q6(w:World)(n:Nat)(C:Option Nat):w.grownBy (w.drewN n) C:=⟨rfl,rfl,rfl,ap,fun _ _ _=>rfl⟩
open bS
def nn(s:e6)(k:Nat)(ts:e4)(last:e6):Prop:=ts.length<=k/\∃f,s.size-k<f/\ku s=(oR s f k last.data.toList).map (ts.map (·.data.toList) ++ ·)
def nn.start(s:e6):nn s 0 [] ⟨#[]⟩:=⟨ap,s.size+1,r,by simp[ku]⟩
def nn.blank(h:nn s k ts last)(hk:k<s.size)(hs:kW s k last.data.toList=some (none,jY)):nn s jY ts last:=by
 obtain⟨X,f,av,he⟩:=h;obtain⟨h1,H⟩:=A3 hk hs;match f,av with
 | f+1,av=>refine⟨by simp at h1;omega,f,by simp at h1 H;omega,?_⟩;rw[he,oR,if_pos hk,hs]
def nn.tok{t:e6}(h:nn s k ts last)(hk:k<s.size)(hs:kW s k last.data.toList=some (some t.data.toList,jY)):nn s jY (ts++[t]) t:=by
 obtain⟨X,f,av,he⟩:=h;obtain⟨h1,H⟩:=A3 hk hs;match f,av with
 | f+1,av=>refine⟨by simp at h1 ⊢;omega,f,by simp at h1 H;omega,?_⟩;rw[he,oR,if_pos hk,hs];simp only[Option.map_map,List.map_append,List.map_cons,List.map_nil];congr 1;funext l;simp
def nn.bad(h:nn s k ts last)(hk:k<s.size)(hs:kW s k last.data.toList=none):ku s=none:=by
 obtain⟨X,f,av,he⟩:=h;match f,av with
 | f+1,av=>rw[he,oR,if_pos hk,hs];rfl
def nn.done(h:nn s k ts last)(hk:¬k<s.size):ku s=some (ts.map (·.data.toList)):=by
 obtain⟨X,f,av,he⟩:=h;match f,av with
 | f+1,av=>rw[he,oR,if_neg hk];simp
