import Derived.Test.YtjebdgbpopolkaaGreatDoorM007
import Derived.Test.YtjebdgbpopolkaaGreatDoorM008
import Derived.Test.YtjebdgbpopolkaaGreatDoorM009
set_option maxHeartbeats 0
set_option maxRecDepth 100000
set_option linter.all false
namespace Go.Proofs.YtjebdgbpopolkaaGreatDoor
open Tryz
open Go.RowKit
open bS
def Km(s:e6)(w:World)(hs:s.size<=2000000):ey 48 #[.string s] w (gU w (.string s)):=by go_enter func48,ntmps48;go_wp2_with (go_at_call 83;refine(Tryz.stringslite_Clone s w r).mono ?_;rintro e w' ⟨rfl,A⟩);go_ret;exact⟨rfl,A⟩
def Kn:Option (e6×Nat)->Value
 | some c=>.tuple #[.agg #[.string c.1,.int .i64 (c.2:Int)],.bool true]
 | none=>.tuple #[.agg #[.string ⟨#[]⟩,.int .i64 0],.bool false]
def aa0(s sep:List UInt8):(Lib.cut s sep).1.length<=s.length:=by
 unfold Lib.cut;split
 ·simp only[List.length_take];omega
 ·exact ap
def aa1(s:e6)(w:World)(R:et w)(hs:s.size<=2000000):ey 55 #[.string s] w (gU w (Kn (si s.data.toList))):=by
 have k0:=R.js;have dF:eB w (w.alloc (.cells #[.string ⟨#[]⟩,q 0] 130)):=cT;have th:=R.below dF k0;have Dk:=bH w (.cells #[.string ⟨#[]⟩,q 0] 130);obtain⟨m,hm⟩:=th.maxLen;have hcut:=Tryz.strings_Cut s ⟨#[58]⟩ m _ r hm;have b7:=aa0 s.data.toList [58];rw[ax7] at b7;have Ko:(Lib.cut s.data.toList [58]).1.length<=2000000:=bX b7 hs;unfold si;have Gx:(⟨#[58]⟩:e6).data.toList=[58]:=rfl;rw[Gx] at hcut;generalize (Lib.cut s.data.toList [58]).2.2=found at *;generalize (Lib.cut s.data.toList [58]).1=n at *;generalize (Lib.cut s.data.toList [58]).2.1=k at *;have vT:=u hcut;clear hcut b7 Gx hm;have cS:=fun (U:Nat)=>Gn (a7 n) ((w.alloc (.cells #[.string ⟨#[]⟩,q 0] 130)).drewN U) (th.drewN U) Ko;rw[Dc n] at cS;have bn:=u cS;clear cS
 have cK:∀U,((w.alloc (.cells #[.string ⟨#[]⟩,q 0] 130)).drewN U).heap[w.heap.size]?=some (.cells #[.string ⟨#[]⟩,q 0] 130 (0,0)):=fun _=>Dk;have dT:∀U,eB w ((w.alloc (.cells #[.string ⟨#[]⟩,q 0] 130)).drewN U):=fun U=>dF.trans (by exact⟨rfl,rfl,rfl,ap,fun _ _=>rfl⟩);have hW:=u Ko;clear Dk dF th R Ko;change Hid (ey 93 #[.string s,.string ⟨#[58]⟩] _ fun e w'=>e=.returned (.tuple #[.string (a7 n),.string (a7 k),.bool found])/\∃n,w'=World.drewN _ n) at vT;unfold y9;generalize bw:a7 n=N at *;have QV:=u bw;clear bw;generalize iP n=nb at *;cases nb
 ·rw[if_neg K];show ey _ _ _ (gU w (.tuple #[.agg #[.string ⟨#[]⟩,q 0],.bool false]));go_enter func55,ntmps55;go_upto_region 3 with(first | (go_at_call 93;refine vT.d.mono ?_;rintro e w' ⟨rfl,U,rfl⟩) | (go_at_call 29;refine(bn.d U).mono ?_;rintro e w' ⟨rfl,rfl⟩));have ag:=cK U;have pB:=dT U;clear cK dT vT bn;generalize (w.alloc (.cells #[.string ⟨#[]⟩,q 0] 130)).drewN U=W at *;have c3:=Z ag (i:=0) rfl;have cX:=Z ag (i:=1) rfl;have g0:=aQ (i:=0) ag;have g1:=aQ (i:=1) ag;go_wp2_with fail;refine bodyPost_ret (v:=.tuple #[.agg #[.string ⟨#[]⟩,q 0],.bool false]) (by simp[results,results55,go_sem, *]) rfl ⟨rfl,(pB.setCell ap _).setCell ap _⟩
 ·rw[if_pos rfl];by_cases h1:k=[105]
  ·rw[if_pos h1];subst h1;show ey _ _ _ (gU w (.tuple #[.agg #[.string N,q 1],.bool true]));have Y:((a7 [105]).toList==[105])=true:=by rw[ByteArray.toList_eq];rfl
   go_enter func55,ntmps55;go_upto_region 6 with(first | (go_at_call 93;refine vT.d.mono ?_;rintro e w' ⟨rfl,U,rfl⟩) | (go_at_call 29;refine(bn.d U).mono ?_;rintro e w' ⟨rfl,rfl⟩));have ag:=cK U;have pB:=dT U;clear cK dT vT bn;generalize (w.alloc (.cells #[.string ⟨#[]⟩,q 0] 130)).drewN U=W at *;have cY:w.heap.size<W.heap.size:=(br ag).1;go_wp2_with fail;refine(Km N _ (by rw[<-QV.d];exact hW.d)).mono ?_;rintro e bI ⟨rfl,lM⟩;have lN:=(lM.block w.heap.size cY).trans ag;have c3:=Z lN (i:=0) rfl;have cX:=Z lN (i:=1) rfl;have g0:=aQ (i:=0) lN;have g1:=aQ (i:=1) lN;go_wp2_with fail;refine bodyPost_ret (v:=.tuple #[.agg #[.string N,q 1],.bool true]) (by simp[results,results55,go_sem, *]) rfl ⟨rfl,((pB.trans (lM.mono pB.size)).setCell ap _).setCell ap _⟩
  ·rw[if_neg h1];have aI:¬(a7 k).toList=[105]:=by rw[ByteArray.toList_eq];exact h1
   by_cases H:k=[116]
   ·rw[if_pos H];subst H;show ey _ _ _ (gU w (.tuple #[.agg #[.string N,q 2],.bool true]));have Y:((a7 [116]).toList==[105])=false:=by rw[ByteArray.toList_eq];rfl
    have am:((a7 [116]).toList==[116])=true:=by rw[ByteArray.toList_eq];rfl
    clear aI;go_enter func55,ntmps55;go_upto_region 8 with(first | (go_at_call 93;refine vT.d.mono ?_;rintro e w' ⟨rfl,U,rfl⟩) | (go_at_call 29;refine(bn.d U).mono ?_;rintro e w' ⟨rfl,rfl⟩));have ag:=cK U;have pB:=dT U;clear cK dT vT bn;generalize (w.alloc (.cells #[.string ⟨#[]⟩,q 0] 130)).drewN U=W at *;have cY:w.heap.size<W.heap.size:=(br ag).1;go_wp2_with fail;refine(Km N _ (by rw[<-QV.d];exact hW.d)).mono ?_;rintro e bI ⟨rfl,lM⟩;have lN:=(lM.block w.heap.size cY).trans ag;have c3:=Z lN (i:=0) rfl;have cX:=Z lN (i:=1) rfl;have g0:=aQ (i:=0) lN;have g1:=aQ (i:=1) lN;go_wp2_with fail;refine bodyPost_ret (v:=.tuple #[.agg #[.string N,q 2],.bool true]) (by simp[results,results55,go_sem, *]) rfl ⟨rfl,((pB.trans (lM.mono pB.size)).setCell ap _).setCell ap _⟩
   ·rw[if_neg H];have aZ:¬(a7 k).toList=[116]:=by rw[ByteArray.toList_eq];exact H
    show ey _ _ _ (gU w (.tuple #[.agg #[.string ⟨#[]⟩,q 0],.bool false]));have lk:((a7 k).toList==[105])=false:=cV.2 aI;have xA:((a7 k).toList==[116])=false:=cV.2 aZ;clear aI aZ;generalize a7 k=Gy at *;go_enter func55,ntmps55;go_upto_region 9 with(first | (go_at_call 93;refine vT.d.mono ?_;rintro e w' ⟨rfl,U,rfl⟩) | (go_at_call 29;refine(bn.d U).mono ?_;rintro e w' ⟨rfl,rfl⟩));have ag:=cK U;have pB:=dT U;clear cK dT vT bn;generalize (w.alloc (.cells #[.string ⟨#[]⟩,q 0] 130)).drewN U=W at *;have c3:=Z ag (i:=0) rfl;have cX:=Z ag (i:=1) rfl;have g0:=aQ (i:=0) ag;have g1:=aQ (i:=1) ag;go_wp2_with fail;refine bodyPost_ret (v:=.tuple #[.agg #[.string ⟨#[]⟩,q 0],.bool false]) (by simp[results,results55,go_sem, *]) rfl ⟨rfl,(pB.setCell ap _).setCell ap _⟩
