import Derived.Test.YthhnephbfgjoaaaGreatDoorC023
import Derived.Laws.EntriesVeiled
set_option maxHeartbeats 0
set_option maxRecDepth 100000
set_option linter.all false
namespace Go.Proofs.ax0
open Tryz
open Go.RowKit
open bS
def uv(fn:Nat)(F:Nat->Prop)(wb:Nat)(G:Option Nat)(B:List bG)(O:Int)(ao:Bool)(w:World)(b:Nat)(st:az)(v:al)(st2:az):Prop:=∀W,aR wb G G w W->aM F W wb G B O ao st->ey fn #[M wb,M b] W (gO F wb G B O ao (cb v) st2 W)
def BD{F:Nat->Prop}{wb:Nat}{G:Option Nat}{B:List bG}{O:Int}{ao:Bool}{st st2:az}(fn:FuncId)(k:Int)(av:k=1/\fn=195\/k=2/\fn=196\/k=3/\fn=197\/k=4/\fn=198\/k=5/\fn=199\/k=6/\fn=200\/k=7/\fn=201\/k=8/\fn=202\/k=9/\fn=203\/k=10/\fn=204\/k=11/\fn=205)(b:Nat)(v:al)(w:World)(h:aM F w wb G B O ao st)(hk:dp w b 0=some (q k))(bc:b<w.heap.size)(b4:uv fn F wb G B O ao w b st v st2):ey 138 #[M wb,M b] w (gO F wb G B O ao (cb v) st2 w):=by
 have eX:∀args w,(callFunc fn args).run prog w=.ok (.enter fn args) w:=by
  rcases av with⟨rfl,rfl⟩ | ⟨rfl,rfl⟩ | ⟨rfl,rfl⟩ | ⟨rfl,rfl⟩ | ⟨rfl,rfl⟩ | ⟨rfl,rfl⟩ | ⟨rfl,rfl⟩ | ⟨rfl,rfl⟩ | ⟨rfl,rfl⟩ | ⟨rfl,rfl⟩ | ⟨rfl,rfl⟩
  ·exact enters_of func195 ax rfl
  ·exact enters_of func196 ax rfl
  ·exact enters_of func197 ax rfl
  ·exact enters_of func198 ax rfl
  ·exact enters_of func199 ax rfl
  ·exact enters_of func200 ax rfl
  ·exact enters_of func201 ax rfl
  ·exact enters_of func202 ax rfl
  ·exact enters_of func203 ax rfl
  ·exact enters_of func204 ax rfl
  ·exact enters_of func205 ax rfl
 have cy:¬b=w.heap.size:=r;have pm:¬b=w.heap.size+1:=r;have X:=h.lt;have cx:=u h;have aN:Hid (∀o,ey fn #[M wb,M b] ((w.alloc (.cells #[q 0,q 0,.string ⟨#[]⟩] 137)).alloc o) fun e J=>e=.returned (cb v)/\aM F J wb G B O ao st2/\aR wb G G w J/\J.heap[w.heap.size]?=some (.cells #[q 0,q 0,.string ⟨#[]⟩] 137 (0,0))):=u (fun o=>(b4 _ ((ja wb G _).alloc o) ((h.alloc _).alloc o)).mono fun e J aj=>⟨aj.1,aj.2.1,((ja wb G _).alloc o).trans X aj.2.2,aj.2.2.gg ((h.alloc _).alloc o) K K ((Below.heap_alloc _ o w.heap.size (by rw[cc];omega)).trans (bH w _))⟩);clear b4 h;obtain⟨a6,dm,dd⟩:=v;unfold cb at aN ⊢;simp only[] at aN ⊢;generalize a7 dd=e3 at *
 rcases av with⟨rfl,rfl⟩ | ⟨rfl,rfl⟩ | ⟨rfl,rfl⟩ | ⟨rfl,rfl⟩ | ⟨rfl,rfl⟩ | ⟨rfl,rfl⟩ | ⟨rfl,rfl⟩ | ⟨rfl,rfl⟩ | ⟨rfl,rfl⟩ | ⟨rfl,rfl⟩ | ⟨rfl,rfl⟩
 all_goals
  go_enter func138,ntmps138;go_wp2_with ((first | go_at_fn 195 | go_at_fn 196 | go_at_fn 197 | go_at_fn 198 | go_at_fn 199 | go_at_fn 200 | go_at_fn 201 | go_at_fn 202 | go_at_fn 203 | go_at_fn 204 | go_at_fn 205);refine(aN.d _).mono ?_;rintro e J ⟨rfl,fJ,bZ,aT⟩;have d0:=Z aT (i:=0) rfl;have d1:=Z aT (i:=1) rfl;have d2:=Z aT (i:=2) rfl;have f0:=aQ (i:=0) aT;have f1:=aQ (i:=1) aT;have f2:=aQ (i:=2) aT);have cd:=io (x:=q (a6:Int)) (y:=q dm) (z:=.string e3) aT;have z0:=Z cd (i:=0) rfl;have b3:=Z cd (i:=1) rfl;have z2:=Z cd (i:=2) rfl;refine bodyPost_ret (v:=.agg #[q (a6:Int),q dm,.string e3]) (by simp[results,results138,go_sem,z0,b3,z2]) rfl (kd cx.d fJ bZ _ _ _)
