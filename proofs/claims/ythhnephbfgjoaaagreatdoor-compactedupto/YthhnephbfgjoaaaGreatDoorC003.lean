import Derived.Test.YthhnephbfgjoaaaGreatDoorC00
import Derived.WalkSpells
import Derived.WalkLawsBesides
set_option maxHeartbeats 0
set_option maxRecDepth 100000
set_option linter.all false
namespace Go.Proofs.ax0
open Tryz
open Go.RowKit
def heap_setCell{w:World}{b o:Nat}{cs:Array Value}{t:TypeId}{m:Nat×Nat}(h:w.heap[b]?=some (.cells cs t m))(x:Value):(w.setCell ⟨b,o,none⟩ x).heap[b]?=some (.cells (cs.setIfInBounds o x) t m):=by obtain⟨aD,hk⟩:=br h;show(w.heap.modify b _)[b]?=_;rw[Array.getElem?_eq_getElem (by rw[Array.size_modify];exact aD),Array.getElem_modify_self,hk];rfl
def Gh(w:World)(b o:Nat)(x:Value):w.grownBy (w.setCell ⟨b,o,none⟩ x) (some b):=⟨rfl,rfl,rfl,by show w.heap.size<=(w.heap.modify b _).size;rw[Array.size_modify];exact ap,fun k _ hk=>Below.heap_setCell _ _ _ k (fun e=>hk (by rw[e]))⟩
def uQ(w:World)(C:Option Nat):w.grownBy w C:=⟨rfl,rfl,rfl,ap,fun _ _ _=>rfl⟩
def Zr(w:World)(C:Option Nat):w.grownBy w.drew C:=⟨rfl,rfl,rfl,ap,fun _ _ _=>rfl⟩
def q6(w:World)(n:Nat)(C:Option Nat):w.grownBy (w.drewN n) C:=⟨rfl,rfl,rfl,ap,fun _ _ _=>rfl⟩
