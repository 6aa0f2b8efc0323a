import Derived.Test.YtjebdgbpopolkaaGreatDoorM022
import Derived.Laws.EntriesVeiled
set_option maxHeartbeats 0
set_option maxRecDepth 100000
set_option linter.all false
namespace Go.Proofs.YtjebdgbpopolkaaGreatDoor
open Tryz
open Go.RowKit
open bS
def uv(fn:Nat)(F:Nat->Prop)(wb:Nat)(G:Option Nat)(B:List bG)(O:Int)(ao:Bool)(w:World)(b:Nat)(st:az)(v:al)(st2:az):Prop:=∀W,aR wb G G w W->aM F W wb G B O ao st->ey fn #[M wb,M b] W (gO F wb G B O ao (cb v) st2 W)
def BD{F:Nat->Prop}{wb:Nat}{G:Option Nat}{B:List bG}{O:Int}{ao:Bool}{st st2:az}(fn:FuncId)(k:Int)(av:k=1/\fn=174\/k=2/\fn=175\/k=3/\fn=176\/k=4/\fn=177\/k=5/\fn=178\/k=6/\fn=179\/k=7/\fn=180\/k=8/\fn=181\/k=9/\fn=182\/k=10/\fn=183\/k=11/\fn=184)(b:Nat)(v:al)(w:World)(h:aM F w wb G B O ao st)(hk:dp w b 0=some (q k))(bc:b<w.heap.size)(b4:uv fn F wb G B O ao w b st v st2):ey 116 #[M wb,M b] w (gO F wb G B O ao (cb v) st2 w):=by
 have eX:∀args w,(callFunc fn args).run prog w=.ok (.enter fn args) w:=by
  rcases av with⟨rfl,rfl⟩ | ⟨rfl,rfl⟩ | ⟨rfl,rfl⟩ | ⟨rfl,rfl⟩ | ⟨rfl,rfl⟩ | ⟨rfl,rfl⟩ | ⟨rfl,rfl⟩ | ⟨rfl,rfl⟩ | ⟨rfl,rfl⟩ | ⟨rfl,rfl⟩ | ⟨rfl,rfl⟩
  ·exact enters_of func174 ax rfl
  ·exact enters_of func175 ax rfl
  ·exact enters_of func176 ax rfl
  ·exact enters_of func177 ax rfl
  ·exact enters_of func178 ax rfl
  ·exact enters_of func179 ax rfl
  ·exact enters_of func180 ax rfl
  ·exact enters_of func181 ax rfl
  ·exact enters_of func182 ax rfl
  ·exact enters_of func183 ax rfl
  ·exact enters_of func184 ax rfl
 have cy:¬b=w.heap.size:=r;have pm:¬b=w.heap.size+1:=r;have X:=h.lt;have cx:=u h;have aN:Hid (∀o,ey fn #[M wb,M b] ((w.alloc (.cells #[q 0,q 0,.string ⟨#[]⟩] 112)).alloc o) fun e J=>e=.returned (cb v)/\aM F J wb G B O ao st2/\aR wb G G w J/\J.heap[w.heap.size]?=some (.cells #[q 0,q 0,.string ⟨#[]⟩] 112 (0,0))):=u (fun o=>(b4 _ ((ja wb G _).alloc o) ((h.alloc _).alloc o)).mono fun e J aj=>⟨aj.1,aj.2.1,((ja wb G _).alloc o).trans X aj.2.2,aj.2.2.gg ((h.alloc _).alloc o) K K ((Below.heap_alloc _ o w.heap.size (by rw[cc];omega)).trans (bH w _))⟩);clear b4 h;obtain⟨a6,dm,dd⟩:=v;unfold cb at aN ⊢;simp only[] at aN ⊢;generalize a7 dd=e3 at *
 rcases av with⟨rfl,rfl⟩ | ⟨rfl,rfl⟩ | ⟨rfl,rfl⟩ | ⟨rfl,rfl⟩ | ⟨rfl,rfl⟩ | ⟨rfl,rfl⟩ | ⟨rfl,rfl⟩ | ⟨rfl,rfl⟩ | ⟨rfl,rfl⟩ | ⟨rfl,rfl⟩ | ⟨rfl,rfl⟩
 all_goals
  go_enter func116,ntmps116;go_wp2_with ((first | go_at_fn 174 | go_at_fn 175 | go_at_fn 176 | go_at_fn 177 | go_at_fn 178 | go_at_fn 179 | go_at_fn 180 | go_at_fn 181 | go_at_fn 182 | go_at_fn 183 | go_at_fn 184);refine(aN.d _).mono ?_;rintro e J ⟨rfl,fJ,bZ,aT⟩;have d0:=Z aT (i:=0) rfl;have d1:=Z aT (i:=1) rfl;have d2:=Z aT (i:=2) rfl;have f0:=aQ (i:=0) aT;have f1:=aQ (i:=1) aT;have f2:=aQ (i:=2) aT);have cd:=io (x:=q (a6:Int)) (y:=q dm) (z:=.string e3) aT;have z0:=Z cd (i:=0) rfl;have b3:=Z cd (i:=1) rfl;have z2:=Z cd (i:=2) rfl;refine bodyPost_ret (v:=.agg #[q (a6:Int),q dm,.string e3]) (by simp[results,results116,go_sem,z0,b3,z2]) rfl (kd cx.d fJ bZ _ _ _)
