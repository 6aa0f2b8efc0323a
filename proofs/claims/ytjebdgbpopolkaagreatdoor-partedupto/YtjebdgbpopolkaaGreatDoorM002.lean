import Derived.Test.YtjebdgbpopolkaaGreatDoorM00
import Derived.Test.YtjebdgbpopolkaaGreatDoorM001
import Derived.WalkSpells
import Derived.WalkLawsBesides
set_option maxHeartbeats 0
set_option maxRecDepth 100000
set_option linter.all false
namespace Go.Proofs.YtjebdgbpopolkaaGreatDoor
open Tryz
open Go.RowKit
open bS (isLet cI jX yU iP jf oQ lJ sa yV)
def A4{a b:Bool}(h:a=b):Ending.returned (.bool a)=.returned (.bool b):=by rw[h]
def mc(s:e6):s.data.toList.length=s.size:=by rw[ax7];rfl
def P4(s:e6)(k:Nat)(h:k<s.size):s.data.toList.take (k+1)=s.data.toList.take k++[s[k]]:=by rw[jD (by rw[mc];exact h)];rfl
def all_false(p:UInt8->Bool)(s:e6)(k:Nat)(h:k<s.size)(aj:p s[k]=false):s.data.toList.all p=false:=by rw[List.all_eq_false];exact⟨s[k],by rw[show s[k]=s.data.toList[k]'(by rw[mc];exact h) from rfl];exact ec _,by simp[aj]⟩
def P5(p:UInt8->Bool)(s:e6)(k:Nat)(h:k<s.size)(aj:p s[k]=true)(ak:(s.data.toList.take k).all p=true):(s.data.toList.take (k+1)).all p=true:=by rw[P4 s k h,List.all_append,ak];simp[aj]
def P6(p:UInt8->Bool)(s:e6)(k:Nat)(h:¬k<s.size)(ak:(s.data.toList.take k).all p=true):s.data.toList.all p=true:=by rwa [List.take_of_length_le (by rw[mc];omega)] at ak
open bS (isLet cI jX yU iP jf oQ lJ q4 ps sa yV)
def u{p:Prop}(h:p):Hid p:=h
def P7(s:e6)(h:0<s.size):s.data.toList.head?=some s[0]:=by rw[List.head?_eq_getElem?,fC (by rw[mc];exact h)];rfl
def Zi(neg:Bool)(C:e6)(h:C.size<1):lJ neg C.data.toList=false:=by rw[lJ,mc,ax2 (show ¬1<=C.size by omega)];rfl
def Zj(neg:Bool)(C:e6)(h:13<C.size):lJ neg C.data.toList=false:=by rw[lJ,mc,ax2 (show ¬C.size<=13 by omega),Bool.and_false];rfl
def Zk(neg:Bool)(C:e6)(h:0<C.size)(aw:(C[0].toNat:Int)=48)(h1:1<C.size\/neg=true):lJ neg C.data.toList=false:=by
 have e:C[0]=48:=by rw[<-UInt8.toNat_inj];simpa using (by omega:C[0].toNat=48)
 rw[lJ,P7 C h,e,mc];rcases h1 with h1 | h1
 ·simp[h1]
 ·simp[h1]
def Zl(neg:Bool)(C:e6)(k:Nat)(h:k<C.size)(bb:cI C[k]=false):lJ neg C.data.toList=false:=by rw[lJ,all_false _ C k h bb,Bool.and_false]
def Zm(neg:Bool)(C:e6)(h1:1<=C.size)(H:C.size<=13)(ab:(C[0]'h1).toNat=48->C.size<=1/\neg=false)(ak:C.data.toList.all cI=true):lJ neg C.data.toList=true:=by
 rw[lJ,ak,P7 C h1,mc];by_cases e:C[0]=48
 ·obtain⟨a,b⟩:=ab (by rw[e];rfl);subst b;have:C.size=1:=r;simp[this]
 ·simp[e,h1,H]
def Zn(C:e6)(k:Nat)(h:k<C.size):oQ (C.data.toList.take (k+1))=10*oQ (C.data.toList.take k)+(C[k].toNat-48):=by rw[P4 C k h,bS.Y5]
def J2{c:UInt8}(h:cI c=true):48<=c.toNat/\c.toNat<=57:=by simpa [cI] using h
def Zo(neg:Bool)(C:e6):Prop:=∀h:0<C.size,C[0].toNat=48->C.size<=1/\neg=false
def Zp(s:e6):(s.extract 1 s.size).data.toList=s.data.toList.tail:=by rw[ByteArray.data_extract,Array.toList_extract];simp only[List.extract];rw[List.take_of_length_le (by rw[List.length_drop,mc];omega),List.drop_one]
def Zq(s:e6):(s.extract 1 s.size).size=s.size-1:=by rw[ByteArray.size_extract,Nat.min_self]
open bS
def sc(c:UInt8)(w:World):ey 36 #[.int .u8 (c.toNat:Int)] w (ov w (.bool (isLet c))):=by
 go_enter func36,ntmps36;go_wp2;all_goals go_ret
 ·rename_i h;exact⟨A4 (by rw[isLet,ax3 (show 97<=c.toNat by omega),Bool.true_and];exact decide_eq_decide.2 r),rfl⟩
 ·rename_i h;exact⟨A4 (by rw[isLet,ax2 (show ¬97<=c.toNat by omega),Bool.false_and]),rfl⟩
def px(c:UInt8)(w:World):ey 37 #[.int .u8 (c.toNat:Int)] w (ov w (.bool (cI c))):=by
 go_enter func37,ntmps37;go_wp2;all_goals go_ret
 ·rename_i h;exact⟨A4 (by rw[cI,ax3 (show 48<=c.toNat by omega),Bool.true_and];exact decide_eq_decide.2 r),rfl⟩
 ·rename_i h;exact⟨A4 (by rw[cI,ax2 (show ¬48<=c.toNat by omega),Bool.false_and]),rfl⟩
def P8(s:e6)(a:Nat)(w:World)(hs:s.size<=maxLen)(ak:a<=s.size):ey 56 #[.string s,q a] w (ov w (q (cR isLet s a:Int))):=by
 unfold maxLen at hs;generalize eU:cR isLet s a=E;have bK:=u eU;clear eU;go_enter func56,ntmps56;go_wp2_with fail;go_loop [1] (fun i=>∃j:Nat,j<=s.size/\i=q j/\Hid (cR isLet s j=E)) (fun i=>s.size-(intOf i).toNat);case atStart=>exact⟨a,ak,rfl,bK⟩
 case round=>
  obtain⟨j,kv,rfl,dP⟩:=hrel;by_cases q5:j<s.size
  ·cases mD:isLet s[j]
   ·have yZ:=u mD;have bj:Hid (E=j):=u (dP.d.symm.trans (C7 _ _ _ q5 mD));clear mD dP bK;go_wp2_with (go_at_call 36;refine(sc _ _).mono ?_;rintro e w' ⟨rfl,rfl⟩;rw[yZ.d]);go_ret;exact⟨by rw[bj.d];rfl,rfl⟩
   ·have yZ:=u mD;have bj:Hid (cR isLet s (j+1)=E):=u ((yW _ _ _ q5 mD).symm.trans dP.d);clear mD dP bK;go_wp2_with (go_at_call 36;refine(sc _ _).mono ?_;rintro e w' ⟨rfl,rfl⟩;rw[yZ.d]);go_round;case rel=>exact⟨j+1,r,by go_num,bj⟩
    case measure=>simp[intOf];omega
  ·have bj:Hid (E=j):=u (dP.d.symm.trans (Gf _ _ _ q5));clear dP bK;go_wp2_with fail;go_ret;exact⟨by rw[bj.d];rfl,rfl⟩
def P9(s:e6)(a:Nat)(w:World)(hs:s.size<=maxLen)(ak:a<=s.size):ey 215 #[.string s,q a] w (ov w (q (cR cI s a:Int))):=by
 unfold maxLen at hs;generalize eU:cR cI s a=E;have bK:=u eU;clear eU;go_enter func215,ntmps215;go_wp2_with fail;go_loop [1] (fun i=>∃j:Nat,j<=s.size/\i=q j/\Hid (cR cI s j=E)) (fun i=>s.size-(intOf i).toNat);case atStart=>exact⟨a,ak,rfl,bK⟩
 case round=>
  obtain⟨j,kv,rfl,dP⟩:=hrel;by_cases q5:j<s.size
  ·cases mD:cI s[j]
   ·have yZ:=u mD;have bj:Hid (E=j):=u (dP.d.symm.trans (C7 _ _ _ q5 mD));clear mD dP bK;go_wp2_with (go_at_call 37;refine(px _ _).mono ?_;rintro e w' ⟨rfl,rfl⟩;rw[yZ.d]);go_ret;exact⟨by rw[bj.d];rfl,rfl⟩
   ·have yZ:=u mD;have bj:Hid (cR cI s (j+1)=E):=u ((yW _ _ _ q5 mD).symm.trans dP.d);clear mD dP bK;go_wp2_with (go_at_call 37;refine(px _ _).mono ?_;rintro e w' ⟨rfl,rfl⟩;rw[yZ.d]);go_round;case rel=>exact⟨j+1,r,by go_num,bj⟩
    case measure=>simp[intOf];omega
  ·have bj:Hid (E=j):=u (dP.d.symm.trans (Gf _ _ _ q5));clear dP bK;go_wp2_with fail;go_ret;exact⟨by rw[bj.d];rfl,rfl⟩
