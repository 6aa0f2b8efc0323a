import Derived.Test.YtjebdgbpopolkaaGreatDoorM032
import Derived.Test.YtjebdgbpopolkaaGreatDoorM007
set_option maxHeartbeats 0
set_option maxRecDepth 100000
set_option linter.all false
namespace Go.Proofs.YtjebdgbpopolkaaGreatDoor
open Tryz
open Go.RowKit
open bS
variable{w w':World}
def V3{n:Nat}(h:n<10):UInt8.ofNat (Nat.digitChar n).toNat=UInt8.ofNat (48+n):=by
 match n,h with
 | 0,_ | 1,_ | 2,_ | 3,_ | 4,_ | 5,_ | 6,_ | 7,_ | 8,_ | 9,_=>rfl
 | n+10,h=>omega
def V4:∀(f n:Nat),n<f->kn n=Lib.decDigits n:=by
 intro f;induction f with
 | zero=>intro n h;omega
 | succ f aH=>
  intro n h;rw[Lib.decDigits];by_cases pe:n<10
  ·rw[dif_pos pe];unfold kn;rw[Nat.toDigits_of_lt_base pe,List.map_cons,List.map_nil,V3 pe]
  ·rw[dif_neg pe,<-aH (n/10) r];unfold kn;rw[Nat.toDigits_of_base_le r r,List.map_append,List.map_cons,List.map_nil,V3 (Nat.mod_lt _ r)]
def V5(n:Int):(if n<0 then 45::kn n.natAbs else kn n.natAbs)=Lib.itoa n:=by
 unfold Lib.itoa;split
 ·rw[V4 _ _ (Nat.lt_succ_self _)]
 ·rw[V4 _ _ (Nat.lt_succ_self _),show n.natAbs=n.toNat by omega]
def kQ(w:World):Prop:=Lib.TabIs prog w "internal/strconv.uint64pow10" .u64 Lib.pow10Tab
def V6:prog.globalNamed "internal/strconv.uint64pow10" = some 2:=ax
def kQ.lt(h:kQ w):2<w.heap.size:=by
 unfold kQ Lib.TabIs World.var? at h;rw[V6] at h;simp only[b2] at h;rcases Nat.lt_or_ge 2 w.heap.size with cC | cC
 ·exact cC
 ·rw[Array.getElem?_eq_none cC] at h;cases h
def kQ.a8(h:kQ w)(A:w'.heap[2]?=w.heap[2]?):kQ w':=by unfold kQ Lib.TabIs World.var? at h ⊢;rw[V6] at h ⊢;simp only[b2] at h ⊢;rw[A];exact h
def kQ.below(h:kQ w)(A:eB w w'):kQ w':=h.a8 (A.block _ h.lt)
def V7(w:World)(k:Nat)(os:Array Obj):eB w (Sort.grow (w.drewN k) os):=by
 refine⟨rfl,rfl,rfl,?_,fun i hi=>?_⟩
 ·show w.heap.size<=(w.heap++os).size;rw[Array.size_append];omega
 ·show(w.heap++os)[i]?=w.heap[i]?;rw[Array.getElem?_append_left hi]
def V8(v:al)(hv:fv v)(w:World)(au:kQ w):ey 82 #[cb v] w (gU w (.string (a7 (iI v)))):=by
 obtain⟨k,n,wd⟩:=v;have hk:k=0\/k=1\/k=2:=by have:=hv.kind;simp only[] at this;omega
 have dA:=hv.low;have er:=hv.high;simp only[] at dA er;unfold cb;simp only[];rcases hk with rfl | rfl | rfl
 ·have e:iI ⟨0,n,wd⟩=[110,117,108,108]:=by unfold iI;simp
  rw[e];clear hv au e;go_enter func82,ntmps82;go_wp2_with fail;go_ret;exact⟨rfl,cT⟩
 ·have e:iI ⟨1,n,wd⟩=Lib.itoa n:=by unfold iI;rw[if_pos rfl];exact V5 n
  rw[e];have bi:Hid (∀o,kQ (w.alloc o)):=u (fun o=>au.below cT);clear hv au e;go_enter func82,ntmps82;go_wp2_with (go_at_call 131;refine(Tryz.strconv_FormatInt_10 n r r _ (bi.d _)).mono ?_;rintro e S ⟨rfl,k,os,rfl⟩);go_ret;exact⟨rfl,cT.trans ((V7 _ _ _).mono (by rw[cc];omega))⟩
 ·have e:iI ⟨2,n,wd⟩=[39]++wd++[39]:=by unfold iI;simp
  rw[e];have hs:(a7 wd).size<=8:=by have h1:=hv.Sq;unfold jf at h1;have H:=(Bool.and_eq_true_iff.1 h1).2;have ab:wd.length<=8:=of_decide_eq_true H;show(wd.toArray).size<=8;simpa using ab
  have s1:¬9223372036854775807<1+(a7 wd).size:=r;have s2:¬9223372036854775807<1+(a7 wd).size+1:=r;have bK:Hid ((⟨#[39]⟩:e6)++a7 wd++⟨#[39]⟩=a7 ([39]++wd++[39])):=u (by
   apply ByteArray.ext;rw[ByteArray.data_append,ByteArray.data_append];show(#[39]++wd.toArray) ++ #[39]=([39]++wd++[39]).toArray;simp)
  clear hv au e hs;go_enter func82,ntmps82;go_wp2_with fail;go_ret;exact⟨by first | (rw[<-bK.d];rfl) | simpa using congrArg (fun x=>Ending.returned (Value.string x)) bK.d,cT⟩
