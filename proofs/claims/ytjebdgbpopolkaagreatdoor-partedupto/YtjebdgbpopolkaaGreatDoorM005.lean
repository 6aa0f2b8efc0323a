import Derived.Test.YtjebdgbpopolkaaGreatDoorM004
import Derived.Deep.MidRow
set_option maxHeartbeats 0
set_option maxRecDepth 100000
set_option linter.all false
namespace Go.Proofs.YtjebdgbpopolkaaGreatDoor
open Tryz
open Go.RowKit
open bS
variable{w w':World}{p:List UInt8}{j:Nat}
def kY:List Value:=nm.map fun k=>.string (a7 k)
structure et (w:World):Prop where
 kw:w.rangeAt 0 0 kY
 kinds:∀i,i<30->dp w 5 i=some (q (md.getD i 0:Nat))
 maxLen:∃m,dp w 1 0=some (q m)
 js:8<=w.heap.size
def et.kept(h:et w)(hs:w.heap.size<=w'.heap.size)(A:∀k,k<8->w'.heap[k]?=w.heap[k]?):et w':=⟨fun j v hv=>(World.cell?_of_block (A 0 K)).trans (h.kw j v hv),fun i hi=>(World.cell?_of_block (A 5 K)).trans (h.kinds i hi),h.maxLen.imp fun _ hm=>(World.cell?_of_block (A 1 K)).trans hm,bX h.js hs⟩
def et.below{lo:Nat}(h:et w)(A:Below lo w w')(X:8<=lo):et w':=h.kept A.size (fun k hk=>A.block k r)
def et.grown{b:Nat}(h:et w)(R:w.grownBy w' (some b))(X:8<=b):et w':=h.kept R.size (fun k hk=>R.block k (by have:=h.js;omega) (by simp;omega))
def et.drewN{w:World}(h:et w)(n:Nat):et (w.drewN n):=h.kept ap (fun _ _=>rfl)
def kZ(j:Nat):e6:=a7 (nm.getD j [])
def Z1(w:World):(Instr.index 183 (.agg kY.toArray) (q ((0:Nat):Int))).run prog w=.ok (.string (kZ 0)) w:=ax
def Z2(w:World):(Instr.index 183 (.agg kY.toArray) (q ((1:Nat):Int))).run prog w=.ok (.string (kZ 1)) w:=ax
def Z3(w:World):(Instr.index 183 (.agg kY.toArray) (q ((2:Nat):Int))).run prog w=.ok (.string (kZ 2)) w:=ax
def Z4(w:World):(Instr.index 183 (.agg kY.toArray) (q ((3:Nat):Int))).run prog w=.ok (.string (kZ 3)) w:=ax
def Z5(w:World):(Instr.index 183 (.agg kY.toArray) (q ((4:Nat):Int))).run prog w=.ok (.string (kZ 4)) w:=ax
def Z6(w:World):(Instr.index 183 (.agg kY.toArray) (q ((5:Nat):Int))).run prog w=.ok (.string (kZ 5)) w:=ax
def Z7(w:World):(Instr.index 183 (.agg kY.toArray) (q ((6:Nat):Int))).run prog w=.ok (.string (kZ 6)) w:=ax
def Z8(w:World):(Instr.index 183 (.agg kY.toArray) (q ((7:Nat):Int))).run prog w=.ok (.string (kZ 7)) w:=ax
def Z9(w:World):(Instr.index 183 (.agg kY.toArray) (q ((8:Nat):Int))).run prog w=.ok (.string (kZ 8)) w:=ax
def aaa(w:World):(Instr.index 183 (.agg kY.toArray) (q ((9:Nat):Int))).run prog w=.ok (.string (kZ 9)) w:=ax
def aab(w:World):(Instr.index 183 (.agg kY.toArray) (q ((10:Nat):Int))).run prog w=.ok (.string (kZ 10)) w:=ax
def aac(w:World):(Instr.index 183 (.agg kY.toArray) (q ((11:Nat):Int))).run prog w=.ok (.string (kZ 11)) w:=ax
def aad(w:World):(Instr.index 183 (.agg kY.toArray) (q ((12:Nat):Int))).run prog w=.ok (.string (kZ 12)) w:=ax
def aae(w:World):(Instr.index 183 (.agg kY.toArray) (q ((13:Nat):Int))).run prog w=.ok (.string (kZ 13)) w:=ax
def aaf(w:World):(Instr.index 183 (.agg kY.toArray) (q ((14:Nat):Int))).run prog w=.ok (.string (kZ 14)) w:=ax
def aag(w:World):(Instr.index 183 (.agg kY.toArray) (q ((15:Nat):Int))).run prog w=.ok (.string (kZ 15)) w:=ax
def aah(w:World):(Instr.index 183 (.agg kY.toArray) (q ((16:Nat):Int))).run prog w=.ok (.string (kZ 16)) w:=ax
def aai(w:World):(Instr.index 183 (.agg kY.toArray) (q ((17:Nat):Int))).run prog w=.ok (.string (kZ 17)) w:=ax
def aaj(w:World):(Instr.index 183 (.agg kY.toArray) (q ((18:Nat):Int))).run prog w=.ok (.string (kZ 18)) w:=ax
def aak(w:World):∀(j:Nat),j<19->(Instr.index 183 (.agg kY.toArray) (q (j:Int))).run prog w=.ok (.string (kZ j)) w
 | 0,_=>Z1 w
 | 1,_=>Z2 w
 | 2,_=>Z3 w
 | 3,_=>Z4 w
 | 4,_=>Z5 w
 | 5,_=>Z6 w
 | 6,_=>Z7 w
 | 7,_=>Z8 w
 | 8,_=>Z9 w
 | 9,_=>aaa w
 | 10,_=>aab w
 | 11,_=>aac w
 | 12,_=>aad w
 | 13,_=>aae w
 | 14,_=>aaf w
 | 15,_=>aag w
 | 16,_=>aah w
 | 17,_=>aai w
 | 18,_=>aaj w
 | n+19,h=>absurd h r
def Ba(p:List UInt8)(j:Nat):Prop:=∀m,m<j->p≠nm.getD m []
def Ba.done(h:Ba p 19):jX p=false:=by
 cases e:jX p
 ·rfl
 ·obtain⟨i,hi,au,_⟩:=Gg e;exact absurd au (h i hi)
def Ba.next(h:Ba p j)(aj:p≠nm.getD j []):Ba p (j+1):=fun m hm=>by
 rcases Nat.lt_succ_iff_lt_or_eq.1 hm with cC | cC
 ·exact h m cC
 ·rw[cC];exact aj
def aal(aS:j<19)(aj:p=nm.getD j []):kx p=14+j:=by subst aj;have:∀j,j<19->kx (nm.getD j [])=14+j:=K;exact this j aS
def Qx(p:e6)(w:World)(R:et w)(hs:p.size<=2000000):ey 57 #[.string p] w fun x w'=>x=.returned (q (kx p.data.toList:Int))/\w=w':=by
 have hk:=R.kw;clear R;go_enter func57,ntmps57;go_upto_region 1 with fail;refine wp_region_lit ?_;refine wpList_load_mid rfl 183 (.global 0) rfl 0 0 rfl kY _ hk underlying183 rfl ax ?_;go_wp2_with fail;go_loop [6] (fun i=>∃j:Nat,j<=19/\i=q j/\Ba p.data.toList j) (fun i=>19-(intOf i).toNat);case atStart=>exact⟨0,K,rfl,fun m hm=>absurd hm (fp _)⟩
 case round=>
  obtain⟨j,aS,rfl,b8⟩:=hrel;by_cases Qy:j<19
  ·have arj:(j:Int)<19:=r;have ark:=aak w j Qy;by_cases aj:p.data.toList=nm.getD j []
   ·have cW:Hid (kx p.data.toList=14+j):=u (aal Qy aj);have y6:(p.toList==(kZ j).toList)=true:=by rw[ByteArray.toList_eq,ByteArray.toList_eq,aj];simp[kZ,Dc]
    have fr:IntKind.i64.wrap (14+(j:Int))=14+(j:Int):=mC;clear aj b8 hk;go_wp2_with fail;go_ret;exact⟨by rw[cW.d];rfl,rfl⟩
   ·have y6:(p.toList==(kZ j).toList)=false:=by rw[ByteArray.toList_eq,ByteArray.toList_eq];simpa [kZ,Dc] using aj
    have bn:=u (b8.next aj);have fr:IntKind.i64.wrap ((j:Int)+1)=(j:Int)+1:=mC;clear aj b8 hk;go_wp2_with fail;go_round;case rel=>exact⟨j+1,r,by go_num,bn.d⟩
    case measure=>simp[intOf];omega
  ·obtain rfl:j=19:=r;have tf:=b8.done;by_cases X:6<p.size
   ·have me:(6:Int)<(p.size:Int):=r;have cW:Hid (kx p.data.toList=0):=u (by unfold kx;rw[tf,if_neg (by simp),s4,if_pos X]);clear b8 tf hk;go_wp2_with fail;go_ret;exact⟨by rw[cW.d];rfl,rfl⟩
   ·have me:(p.size:Int)<=6:=r;have cW:Hid (kx p.data.toList=1):=u (by unfold kx;rw[tf,if_neg (by simp),s4,if_neg X]);clear b8 tf hk;go_wp2_with fail;go_ret;exact⟨by rw[cW.d];rfl,rfl⟩
def aam{α:Type}(p:α->Bool)(l:List α):(l.takeWhile p).length=l.length↔l.all p=true:=by
 induction l with
 | nil=>simp
 | cons a C aH=>
  by_cases h:p a=true
  ·simp[h];simpa using aH
  ·simp[h]
def Qz(s:e6):(cR isLet s 0=s.size)↔s.data.toList.all isLet=true:=by rw[<-aam];unfold cR;rw[List.drop_zero,ax1,ax7];rfl
def aan(p:List UInt8):(((kx p:Nat):Int)==1)=(!jX p&&decide (p.length<=6)):=by
 unfold kx;by_cases h:jX p=true
 ·rw[if_pos h,h];have:¬(((14+nm.idxOf p:Nat):Int)=1):=r;rw[cV.2 this];rfl
 ·rw[if_neg h,Bool.eq_false_iff.2 h];by_cases cE:6<p.length
  ·rw[if_pos cE,ax2 r];rfl
  ·rw[if_neg cE,ax3 r];rfl
def Gn(s:e6)(w:World)(R:et w)(hs:s.size<=2000000):ey 29 #[.string s] w (ov w (.bool (iP s.data.toList))):=by
 by_cases aw:s.size=0
 ·obtain rfl:s=⟨#[]⟩:=by
   cases s with
   | mk aq=>exact congrArg ByteArray.mk (Array.eq_empty_of_size_eq_zero aw)
  go_enter func29,ntmps29;go_wp2_with fail;go_ret;exact⟨rfl,rfl⟩
 ·have cy:s≠⟨#[]⟩:=by intro e;subst e;exact aw rfl
  have bK:=u (P8 s 0 w (by unfold maxLen;omega) bu);have cW:=u (Qx s w R hs);have qq:s.data.toList.isEmpty=false:=by
   cases X:s.data.toList with
   | nil=>have:=congrArg List.length X;rw[ax7] at this;exact absurd this aw
   | cons a C=>rfl
  generalize cS:iP s.data.toList=N;unfold iP yU at cS;rw[qq] at cS;have xx:s.toList.isEmpty=false:=by rw[ByteArray.toList_eq];exact qq
  have QA:¬s.toList=[]:=by intro e;rw[e] at xx;cases xx
  clear R qq cy;by_cases h1:cR isLet s 0=s.size
  ·rw[(Qz s).1 h1] at cS;rw[h1] at bK;have QB:(((kx s.data.toList:Nat):Int)==1)=N:=by rw[aan,<-cS];simp
   have bn:=u QB;clear cS QB h1;generalize kx s.data.toList=bV at *;go_enter func29,ntmps29;go_wp2_with (first | (go_at_call 56;refine bK.d.mono ?_;rintro e w' ⟨rfl,rfl⟩) | (go_at_call 57;refine cW.d.mono ?_;rintro e w' ⟨rfl,rfl⟩));go_ret;exact⟨by rw[<-bn.d];rfl,rfl⟩
  ·have ak:s.data.toList.all isLet=false:=by
    cases h:s.data.toList.all isLet with
    | false=>rfl
    | true=>exact absurd ((Qz s).2 h) h1
   rw[ak] at cS;obtain rfl:N=false:=by rw[<-cS];rfl
   have og:¬((cR isLet s 0:Nat):Int)=(s.size:Int):=r;clear cS ak h1;generalize cR isLet s 0=E at *;go_enter func29,ntmps29;go_wp2_with (go_at_call 56;refine bK.d.mono ?_;rintro e w' ⟨rfl,rfl⟩);go_ret;exact⟨rfl,rfl⟩
