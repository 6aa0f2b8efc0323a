import Derived.Test.YthhnephbfgjoaaaGreatDoorC00
import Derived.Test.YthhnephbfgjoaaaGreatDoorC001
import Derived.WalkKit
set_option maxHeartbeats 0
set_option maxRecDepth 100000
set_option linter.all false
namespace Go.Proofs.ax0
open Go.RowKit
open bS
variable{last s:e6}{k jY:Nat}{ts:e4}
def nn(s:e6)(k:Nat)(ts:e4)(last:e6):Prop:=ts.length<=k/\∃f,s.size-k<f/\ku s=(oR s f k last.data.toList).map (ts.map (·.data.toList) ++ ·)
def nn.start(s:e6):nn s 0 [] ⟨#[]⟩:=⟨ap,s.size+1,r,by simp[ku]⟩
def nn.blank(h:nn s k ts last)(hk:k<s.size)(hs:kW s k last.data.toList=some (none,jY)):nn s jY ts last:=by
 obtain⟨X,f,av,he⟩:=h;obtain⟨h1,H⟩:=A3 hk hs;match f,av with
 | f+1,av=>refine⟨by simp at h1;omega,f,by simp at h1 H;omega,?_⟩;rw[he,oR,if_pos hk,hs]
def nn.tok{t:e6}(h:nn s k ts last)(hk:k<s.size)(hs:kW s k last.data.toList=some (some t.data.toList,jY)):nn s jY (ts++[t]) t:=by
 obtain⟨X,f,av,he⟩:=h;obtain⟨h1,H⟩:=A3 hk hs;match f,av with
 | f+1,av=>refine⟨by simp at h1 ⊢;omega,f,by simp at h1 H;omega,?_⟩;rw[he,oR,if_pos hk,hs];simp only[Option.map_map,List.map_append,List.map_cons,List.map_nil];congr 1;funext l;simp
def nn.bad(h:nn s k ts last)(hk:k<s.size)(hs:kW s k last.data.toList=none):ku s=none:=by
 obtain⟨X,f,av,he⟩:=h;match f,av with
 | f+1,av=>rw[he,oR,if_pos hk,hs];rfl
def nn.done(h:nn s k ts last)(hk:¬k<s.size):ku s=some (ts.map (·.data.toList)):=by
 obtain⟨X,f,av,he⟩:=h;match f,av with
 | f+1,av=>rw[he,oR,if_neg hk];simp
