import Derived.Test.YtjebdgbpopolkaaGreatDoorM005
import Derived.Test.YtjebdgbpopolkaaGreatDoorM006
set_option maxHeartbeats 0
set_option maxRecDepth 100000
set_option linter.all false
namespace Go.Proofs.YtjebdgbpopolkaaGreatDoor
open Tryz
open Go.RowKit
open bS
variable{W aU w w' J S:World}{c s:Option (e4)}{N b base bk f hi i j k lo n o p size:Nat}{cs:Array Value}{e t:TypeId}{x:e4×aL}{D:e6}{cm:al×Bool}{bad neg res:Bool}{l ts:e4}{c9 v:Value}{xs:List Value}{last:List UInt8}{C:Option Nat}{ks:List Nat}{P:e4->Option (e4×aL)}{m:Int}
def QD(l:List UInt8)(c:UInt8):Lib.indexByte l c=if l.contains c then (l.idxOf c:Int) else -1:=by
 induction l with
 | nil=>rfl
 | cons b C aH=>
  rw[Lib.indexByte];by_cases h:b=c
  ·subst h;simp
  ·rw[if_neg (by simpa using h)];have ai:(b::C).contains c=C.contains c:=by simp;exact fun e=>absurd e.symm h
   rw[ai,aH];cases ag:C.contains c
   ·simp
   ·have aw:¬((C.idxOf c:Int) == -1)=true:=by simp
    have A:(b==c)=false:=by simpa using h
    simp only[if_true,if_neg aw];rw[List.idxOf_cons,A];simp
def aaG(l:List UInt8):Lib.indexByte l 39=if (l.takeWhile gG).length<l.length then ((l.takeWhile gG).length:Int) else -1:=by
 induction l with
 | nil=>rfl
 | cons b C aH=>
  rw[Lib.indexByte];by_cases h:b=39
  ·subst h;rw[List.takeWhile_cons_of_neg K];simp
  ·rw[if_neg (by simpa using h),List.takeWhile_cons_of_pos (by simpa [gG] using h),aH];simp only[di,Nat.add_lt_add_iff_right];split
   ·rw[if_neg (by simp)];simp
   ·simp
def aaH(s:e6)(k:Nat)(hk:k<s.size):(if Lib.indexByte (s.extract (k+1) s.size).data.toList 39<0 then (s.size:Int) else (k:Int)+Lib.indexByte (s.extract (k+1) s.size).data.toList 39+2)=(jh s k:Int):=by
 have e:(s.extract (k+1) s.size).data.toList=s.data.toList.drop (k+1):=by rw[ByteArray.data_extract,Array.toList_extract,List.extract];rw[List.take_of_length_le (by rw[List.length_drop,s4];exact ap)]
 rw[e,aaG,jh,cR];have X:(s.data.toList.drop (k+1)).length=s.size-(k+1):=by rw[List.length_drop,s4]
 rw[X];generalize ((s.data.toList.drop (k+1)).takeWhile gG).length=n;by_cases h:n<s.size-(k+1)
 ·have h1:¬((n:Int)<0):=r;have H:k+1+n<s.size:=r;rw[if_pos h,if_neg h1,if_pos H];omega
 ·have H:¬(k+1+n<s.size):=r;rw[if_neg h,if_neg H];rfl
def aaI(c:UInt8):((c.toNat:Int)).toNat.toUInt8=c:=by rw[Int.toNat_natCast];simp
def aaJ(s:e6)(k:Nat)(w:World)(hs:s.size<=1000000)(hk:k<s.size):ey 217 #[.string s,q (k:Int)] w fun x w'=>x=.returned (q (jh s k:Int))/\w=w':=by
 have Ke:=aaH s k hk;have A7:jh s k<=s.size:=by unfold jh;split<;>omega
 generalize fz:Lib.indexByte (s.extract (k+1) s.size).data.toList 39=gX at Ke;have kj:=u fz;have b4:=u Ke;clear fz Ke;have gi:(k:Int)+1<=(s.size:Int):=r;have fr:IntKind.i64.wrap ((k:Int)+1)=(k:Int)+1:=mC;by_cases De:gX<0
 ·have bK:Hid ((jh s k:Int)=s.size):=u (by have:=b4.d;rw[if_pos De] at this;exact this.symm);go_enter func217,ntmps217;go_wp2_with (go_at_call 269;refine(Tryz.strings_IndexByte _ 39 _).mono ?_;rintro e w' ⟨rfl,hw⟩;obtain rfl:=hw.symm;rw[show(39:Int).toNat.toUInt8=39 by decide,kj.d]);go_ret;exact⟨by rw[bK.d];rfl,rfl⟩
 ·have bK:Hid ((jh s k:Int)=k+gX+2):=u (by have:=b4.d;rw[if_neg De] at this;exact this.symm);have hV:(k:Int)+gX+2<=s.size:=by rw[<-bK.d];omega
  have arl:0<=gX:=r;have q8:IntKind.i64.wrap ((k:Int)+gX)=(k:Int)+gX:=mC;have q9:IntKind.i64.wrap ((k:Int)+gX+2)=(k:Int)+gX+2:=mC;go_enter func217,ntmps217;go_wp2_with (go_at_call 269;refine(Tryz.strings_IndexByte _ 39 _).mono ?_;rintro e w' ⟨rfl,hw⟩;obtain rfl:=hw.symm;rw[show(39:Int).toNat.toUInt8=39 by decide,kj.d]);go_ret;exact⟨by rw[bK.d];rfl,rfl⟩
def Kf(s:e6)(w:World)(hs:s.size<=maxLen):ey 18 #[.string s] w (ov w (.bool (jf s.data.toList))):=by
 unfold maxLen at hs;by_cases b5:8<s.size
 ·have vP:(8:Int)<(s.size:Int):=r;have b4:Hid (jf s.data.toList=false):=u (by rw[jf,mc,ax2 r,Bool.and_false]);go_enter func18,ntmps18;go_wp2_with fail;go_ret;exact⟨by rw[b4.d];rfl,rfl⟩
 have vP:(s.size:Int)<=8:=r;go_enter func18,ntmps18;go_wp2_with fail;go_loop [9] (fun i=>∃k:Nat,k<=s.size/\i=q k/\(s.data.toList.take k).all (fun c=>isLet c||cI c)=true) (fun i=>s.size-(intOf i).toNat);case atStart=>exact⟨0,bu,rfl,rfl⟩
 case round=>
  obtain⟨k,hk,rfl,cq⟩:=hrel;have eo:Hid ((s.data.toList.take k).all (fun c=>isLet c||cI c)=true):=cq;clear cq;by_cases aD:k<s.size
  ·generalize ai:isLet s[k]=lc;generalize bb:cI s[k]=ld;have aN:Hid (isLet s[k]=lc):=ai;have ht:Hid (cI s[k]=ld):=bb;clear ai bb;cases lc<;>cases ld
   ·go_wp2_with (first | (go_at_call 36;refine(sc _ _).mono ?_;rintro e w' ⟨rfl,rfl⟩;rw[aN.d]) | (go_at_call 37;refine(px _ _).mono ?_;rintro e w' ⟨rfl,rfl⟩;rw[ht.d]));go_ret;exact⟨A4 (by rw[jf,all_false _ s k aD (by rw[aN.d,ht.d];rfl)];rfl),rfl⟩
   all_goals
    go_wp2_with (first | (go_at_call 36;refine(sc _ _).mono ?_;rintro e w' ⟨rfl,rfl⟩;rw[aN.d]) | (go_at_call 37;refine(px _ _).mono ?_;rintro e w' ⟨rfl,rfl⟩;rw[ht.d]));go_round;case rel=>exact⟨k+1,r,by go_num,P5 _ s k aD (by rw[aN.d,ht.d];rfl) eo.d⟩
    case measure=>simp[intOf];omega
  ·go_wp2_with fail;go_ret;exact⟨A4 (by rw[jf,P6 _ s k aD eo.d,mc,Bool.true_and];exact(ax3 r).symm),rfl⟩
def ra(l:List UInt8):Bool:=lJ false l
def Gp(s:e6)(w:World)(hs:s.size<=maxLen):ey 212 #[.string s] w (ov w (.bool (ra s.data.toList))):=by
 unfold maxLen at hs;by_cases aw:s.size=0
 ·have xy:((s.size:Int)==0)=true:=by simp[aw]
  have b4:Hid (ra s.data.toList=false):=u (Zi _ _ r);go_enter func212,ntmps212;go_wp2_with fail;go_ret;exact⟨by rw[b4.d];rfl,rfl⟩
 have xy:((s.size:Int)==0)=false:=by rw[cV];omega
 by_cases qr:13<s.size
 ·have Kg:(13:Int)<(s.size:Int):=r;have b4:Hid (ra s.data.toList=false):=u (Zj _ _ qr);go_enter func212,ntmps212;go_wp2_with fail;go_ret;exact⟨by rw[b4.d];rfl,rfl⟩
 have Kg:(s.size:Int)<=13:=r;have aj:0<s.size:=r;by_cases Gq:((s[0].toNat:Int)==48)=true/\1<s.size
 ·obtain⟨aY,h1⟩:=Gq;have og:(1:Int)<(s.size:Int):=r;have b4:Hid (ra s.data.toList=false):=u (Zk _ _ aj (by simpa using aY) (Or.inl h1));go_enter func212,ntmps212;go_wp2_with fail;go_ret;exact⟨by rw[b4.d];rfl,rfl⟩
 have Df:Zo false s:=fun _ e=>⟨Nat.le_of_not_lt fun h=>Gq ⟨by simp[e],h⟩,rfl⟩;have aaK:(1:Int)<(s.size:Int)/\((s[0].toNat:Int)==48)=false\/(s.size:Int)<=1:=by
  by_cases h1:1<s.size
  ·left;refine⟨r,?_⟩;cases aY:((s[0].toNat:Int)==48)
   ·rfl
   ·exact absurd ⟨aY,h1⟩ Gq
  ·right;omega
 clear Gq;rcases aaK with⟨og,aY⟩ | og
 all_goals
  go_enter func212,ntmps212;go_wp2_with fail;go_loop [24] (fun i=>∃k:Nat,k<=s.size/\i=q k/\(s.data.toList.take k).all cI=true) (fun i=>s.size-(intOf i).toNat);case atStart=>exact⟨0,bu,rfl,rfl⟩
  case round=>
   obtain⟨k,hk,rfl,cq⟩:=hrel;have eo:Hid ((s.data.toList.take k).all cI=true):=cq;clear cq;by_cases aD:k<s.size
   ·cases ai:cI s[k]
    ·have aN:=u ai;have b4:Hid (ra s.data.toList=false):=u (Zl _ s k aD ai);clear ai;go_wp2_with (go_at_call 37;refine(px _ _).mono ?_;rintro e w' ⟨rfl,rfl⟩;rw[aN.d]);go_ret;exact⟨by rw[b4.d];rfl,rfl⟩
    ·have aN:=u ai;have aaL:=u (P5 _ s k aD ai eo.d);clear ai;go_wp2_with (go_at_call 37;refine(px _ _).mono ?_;rintro e w' ⟨rfl,rfl⟩;rw[aN.d]);go_round;case rel=>exact⟨k+1,r,by go_num,aaL.d⟩
     case measure=>simp[intOf];omega
   ·have b4:Hid (ra s.data.toList=true):=u (Zm false s r r (Df r) (P6 _ s k aD eo.d));go_wp2_with fail;go_ret;exact⟨by rw[b4.d];rfl,rfl⟩
def cb(v:al):Value:=.agg #[q (v.kind:Int),q v.num,.string (a7 v.du)]
def Dg(l:List UInt8):al×Bool:=if (ps l).2 then (⟨1,(ps l).1,[]⟩,true) else (al.zero,false)
def Kh(l:List UInt8):lJ true l=(ra l&&!(l==[48])):=by
 unfold ra lJ;match l with
 | []=>rfl
 | [a]=>
  by_cases h:a=48
  ·subst h;rfl
  ·have e:(a==48)=false:=by simpa using h
   simp[e]
 | a::b::C=>simp
def QE(l:List UInt8):Lib.hasPrefix l [45]=(l.head?==some 45):=by
 cases l with
 | nil=>rfl
 | cons a C=>simp only[Lib.hasPrefix,List.isPrefixOf,Bool.and_true,List.head?_cons];rw[Bool.eq_iff_iff,beq_iff_eq,beq_iff_eq,Option.some_inj];exact eq_comm
def QF(l:List UInt8):Lib.trimPrefix l [45]=if l.head?=some 45 then l.tail else l:=by
 rw[Lib.trimPrefix,QE];by_cases h:l.head?=some 45
 ·rw[if_pos (by simpa using h),if_pos h];simp
 ·rw[if_neg (by simpa using h),if_neg h]
def tg(n:Int)(w:World):ey 45 #[q n] w (gU w (.agg #[q 1,q n,.string ⟨#[]⟩])):=by go_enter func45,ntmps45;go_wp2_with fail;refine bodyPost_ret (v:=.agg #[q 1,q n,.string ⟨#[]⟩]) (by simp[results,results45,go_sem]) rfl ⟨rfl,?_⟩;exact cT
def Ki(s:e6)(w:World):ey 47 #[.string s] w (gU w (.agg #[q 2,q 0,.string s])):=by go_enter func47,ntmps47;go_wp2_with fail;refine bodyPost_ret (v:=.agg #[q 2,q 0,.string s]) (by simp[results,results47,go_sem]) rfl ⟨rfl,?_⟩;exact cT
def aaM(s:e6):∃(neg:Bool) (D:e6),Lib.hasPrefix s.data.toList [45]=neg/\(⟨(Lib.trimPrefix s.data.toList [45]).toArray⟩:e6)=D/\D.size<=s.size/\ps s.data.toList=q4 (if neg then -1 else 1) neg D.data.toList:=by
 refine⟨_,_,rfl,rfl,?_,?_⟩
 ·show(Lib.trimPrefix s.data.toList [45]).toArray.size<=_;rw[List.size_toArray,QF,<-mc];split
  ·rw[List.length_tail];omega
  ·exact ap
 ·show ps s.data.toList=q4 _ _ (Lib.trimPrefix s.data.toList [45]);rw[QF,QE,ps];by_cases h:s.data.toList.head?=some 45
  ·rw[if_pos h,if_pos h,h];rfl
  ·have e:(s.data.toList.head?==some 45)=false:=by simpa using h
   rw[if_neg h,if_neg h,e];rfl
def vQ(h1:eB w J)(H:eB J S):eB w S:=h1.trans (H.mono h1.size)
def Z{c:Nat}(h:w.heap[c]?=some (.cells cs t (0,0))){x:Value}(aa:cs[i]?=some x):dp w c i=some x:=by simp[World.cell?,h,aa]
def aQ{c:Nat}(h:w.heap[c]?=some (.cells cs t (0,0))):w.frozen? ⟨c,i,none⟩=false:=by simp[World.frozen?,h]
def QG(s:e6)(neg:Bool)(D:e6):Prop:=Lib.hasPrefix s.data.toList [45]=neg/\(⟨(Lib.trimPrefix s.data.toList [45]).toArray⟩:e6)=D
def Gr(s:e6)(neg:Bool)(D:e6)(w:World)(h:QG s neg D):ey 211 #[.string s,.string ⟨#[45]⟩] w (ov w (.tuple #[.string D,.bool neg])):=by refine(Tryz.strings_CutPrefix s ⟨#[45]⟩ w).mono ?_;rintro e w' ⟨rfl,rfl⟩;refine⟨?_,rfl⟩;rw[<-h.1,<-h.2]
def aaN(D:e6)(k:Nat)(qr:D.size<=13)(ak:D.data.toList.all cI=true):oQ (D.data.toList.take k)<10000000000000:=by have y7:(D.data.toList.take k).all cI=true:=List.all_eq_true.2 fun x aa=>List.all_eq_true.1 ak x (List.mem_of_mem_take aa);have h:=Y7 _ y7;refine e0 h ?_;exact bX (Nat.pow_le_pow_right r (bX (List.length_take_le' _ _) (by rw[mc];exact qr))) K
def vR(D:e6)(k:Nat)(n:Int):Prop:=n=(oQ (D.data.toList.take k):Int)
def QH{n:Int}(h:vR D k n)(hk:k<D.size)(bb:cI D[k]=true):vR D (k+1) (10*n+((D[k].toNat:Int)-48)):=by unfold vR at h ⊢;have A:=J2 bb;rw[Zn D k hk,h];omega
def QI{n:Int}(h:vR D k n)(qr:D.size<=13)(ak:D.data.toList.all cI=true):0<=n/\n<10000000000000:=by unfold vR at h;have:=aaN D k qr ak;omega
def QJ(ak:D.data.toList.all cI=true)(k:Nat)(hk:k<D.size):cI D[k]=true:=List.all_eq_true.1 ak _ (by rw[show D[k]=D.data.toList[k]'(by rw[mc];exact hk) from rfl];exact ec _)
def Bc(cm:al×Bool)(neg:Bool)(D:e6):Prop:=cm=if (q4 (if neg then -1 else 1) neg D.data.toList).2 then (⟨1,(q4 (if neg then -1 else 1) neg D.data.toList).1,[]⟩,true) else (al.zero,false)
def QK(h:Bc cm neg D)(bb:ra D.data.toList=false\/neg=true/\D.data.toList=[48]):cm=(al.zero,false):=by
 unfold Bc q4 at h;have e:lJ neg D.data.toList=false:=by
  rcases bb with bb | ⟨rfl,bb⟩
  ·cases neg
   ·exact bb
   ·rw[Kh,bb];rfl
  ·rw[Kh,bb];rfl
 rw[e] at h;simpa using h
def aaO{n:Int}(h:Bc cm neg D)(bb:ra D.data.toList=true)(aY:¬(neg=true/\D.data.toList=[48]))(ar:vR D D.size n):cm=if n<=1000000000000 then (⟨1,(if neg then -1 else 1)*n,[]⟩,true) else (al.zero,false):=by
 unfold Bc q4 at h;have e:lJ neg D.data.toList=true:=by
  cases neg
  ·exact bb
  ·rw[Kh,bb];have:(D.data.toList==[48])=false:=by simpa using fun e=>aY ⟨rfl,e⟩
   rw[this];rfl
 unfold vR at ar;rw[List.take_of_length_le (by rw[mc];exact ap)] at ar;rw[e] at h;simp only[if_true] at h;rw[h,ar];by_cases hle:oQ D.data.toList<=1000000000000
 ·have Kj:(oQ D.data.toList:Int)<=1000000000000:=r;rw[if_pos (ax3 hle),if_pos Kj]
 ·have Kj:¬(oQ D.data.toList:Int)<=1000000000000:=r;rw[if_neg (by simpa using hle),if_neg Kj]
def aaP{l:List UInt8}(h:ra l=true):1<=l.length/\l.length<=13/\l.all cI=true:=by unfold ra lJ at h;simp only[Bool.and_eq_true,decide_eq_true_eq] at h;exact⟨h.1.1.1,h.1.1.2,h.2⟩
def aaQ(s:e6)(w:World)(hs:s.size<=maxLen):ey 142 #[.string s] w (gU w (.tuple #[cb (Dg s.data.toList).1,.bool (Dg s.data.toList).2])):=by
 obtain⟨neg,D,De,Bd,QL,cS⟩:=aaM s;have kk:QG s neg D:=⟨De,Bd⟩;clear De Bd;generalize b1:Dg s.data.toList=cm;have cK:Bc cm neg D:=by rw[<-b1];unfold Dg Bc;rw[cS]
 clear cS b1;have ff:D.size<=maxLen:=bX QL hs;clear hs QL;generalize QM:ra D.data.toList=dg;have vS:=u QM;clear QM;cases dg
 ·obtain rfl:=QK cK (Or.inl vS.d);go_enter func142,ntmps142;go_wp2_with (first | (go_at_call 211;refine(Gr _ _ _ _ kk).mono ?_;rintro e w' ⟨rfl,rfl⟩) | (go_at_call 212;refine(Gp _ _ ff).mono ?_;rintro e w' ⟨rfl,rfl⟩;rw[vS.d]));refine bodyPost_ret (v:=.tuple #[cb al.zero,.bool false]) (by simp[results,results142,go_sem,cb,al.zero,a7]) rfl ⟨rfl,?_⟩;exact cT
 ·obtain⟨kz,Kk,cq⟩:=aaP vS.d;rw[mc] at kz Kk;have mG:=u cq;clear cq;by_cases aY:neg=true/\D.data.toList=[48]
  ·obtain rfl:=QK cK (Or.inr aY);obtain⟨rfl,aY⟩:=aY;have Gs:(D.toList==[48])=true:=by rw[ByteArray.toList_eq,aY];rfl
   clear aY;go_enter func142,ntmps142;go_wp2_with (first | (go_at_call 211;refine(Gr _ _ _ _ kk).mono ?_;rintro e w' ⟨rfl,rfl⟩) | (go_at_call 212;refine(Gp _ _ ff).mono ?_;rintro e w' ⟨rfl,rfl⟩;rw[vS.d]));refine bodyPost_ret (v:=.tuple #[cb al.zero,.bool false]) (by simp[results,results142,go_sem,cb,al.zero,a7]) rfl ⟨rfl,?_⟩;exact cT
  ·have Gs:neg=true->(D.toList==[48])=false:=fun e=>by rw[ByteArray.toList_eq];simpa using fun bo=>aY ⟨e,bo⟩
   have Dh:=fun n ar=>aaO (n:=n) cK vS.d aY ar;have QN:=u Dh;clear Dh aY cK;cases neg
   ·clear Gs;go_enter func142,ntmps142;go_wp2_with (first | (go_at_call 211;refine(Gr _ _ _ _ kk).mono ?_;rintro e w' ⟨rfl,rfl⟩) | (go_at_call 212;refine(Gp _ _ ff).mono ?_;rintro e w' ⟨rfl,rfl⟩;rw[vS.d]));go_loop [6,26] (fun n i=>∃(k:Nat) (m:Int),k<=D.size/\i=q k/\n=q m/\vR D k m) (fun _ i=>D.size-(intOf i).toNat);case atStart=>exact⟨0,0,bu,rfl,rfl,rfl⟩
    case round=>
     obtain⟨k,m,hk,rfl,rfl,hm⟩:=hrel;obtain⟨Gt,np⟩:=QI hm Kk mG.d;by_cases aD:k<D.size
     ·have bb:=QJ mG.d k aD;have A:=J2 bb;have hT:=u (QH hm aD bb);have dR:(k:Int)<(D.size:Int):=r;clear hm bb;go_wp2_with fail;go_round;case rel=>exact⟨k+1,10*m+((D[k].toNat:Int)-48),r,by go_num,by go_num,hT.d⟩
      case measure=>simp[intOf];omega
     ·obtain rfl:k=D.size:=r;have b1:=QN.d m hm;clear hm;by_cases hle:m<=1000000000000
      ·rw[if_pos hle] at b1;subst b1;go_wp2_with (go_at_call 45;refine(tg _ _).mono ?_;rintro e S ⟨rfl,ah⟩;have hblk:S.heap[w.heap.size]?=some (.cells #[q 0,q 0,.string ⟨#[]⟩] 112 (0,0)):=(ah.block _ (by simp)).trans (bH w _);have uV:=Z hblk (i:=0) rfl;have dG:=Z hblk (i:=1) rfl;have fg:=Z hblk (i:=2) rfl;have y8:=aQ (i:=0) hblk;have oV:=aQ (i:=1) hblk;have tb:=aQ (i:=2) hblk);refine bodyPost_ret (v:=.tuple #[cb _,.bool true]) (by simp[results,results142,go_sem,cb,a7, *]) rfl ⟨rfl,?_⟩;exact(((vQ cT ah).setCell ap _).setCell ap _).setCell ap _
      ·rw[if_neg hle] at b1;subst b1;go_wp2_with fail;refine bodyPost_ret (v:=.tuple #[cb al.zero,.bool false]) (by simp[results,results142,go_sem,cb,al.zero,a7]) rfl ⟨rfl,?_⟩;exact cT
   ·replace Gs:=Gs rfl;go_enter func142,ntmps142;go_wp2_with (first | (go_at_call 211;refine(Gr _ _ _ _ kk).mono ?_;rintro e w' ⟨rfl,rfl⟩) | (go_at_call 212;refine(Gp _ _ ff).mono ?_;rintro e w' ⟨rfl,rfl⟩;rw[vS.d]));go_loop [6,26] (fun n i=>∃(k:Nat) (m:Int),k<=D.size/\i=q k/\n=q m/\vR D k m) (fun _ i=>D.size-(intOf i).toNat);case atStart=>exact⟨0,0,bu,rfl,rfl,rfl⟩
    case round=>
     obtain⟨k,m,hk,rfl,rfl,hm⟩:=hrel;obtain⟨Gt,np⟩:=QI hm Kk mG.d;by_cases aD:k<D.size
     ·have bb:=QJ mG.d k aD;have A:=J2 bb;have hT:=u (QH hm aD bb);have dR:(k:Int)<(D.size:Int):=r;clear hm bb;go_wp2_with fail;go_round;case rel=>exact⟨k+1,10*m+((D[k].toNat:Int)-48),r,by go_num,by go_num,hT.d⟩
      case measure=>simp[intOf];omega
     ·obtain rfl:k=D.size:=r;have b1:=QN.d m hm;clear hm;by_cases hle:m<=1000000000000
      ·rw[if_pos hle] at b1;subst b1;go_wp2_with (go_at_call 45;refine(tg _ _).mono ?_;rintro e S ⟨rfl,ah⟩;have hblk:S.heap[w.heap.size]?=some (.cells #[q 0,q 0,.string ⟨#[]⟩] 112 (0,0)):=(ah.block _ (by simp)).trans (bH w _);have uV:=Z hblk (i:=0) rfl;have dG:=Z hblk (i:=1) rfl;have fg:=Z hblk (i:=2) rfl;have y8:=aQ (i:=0) hblk;have oV:=aQ (i:=1) hblk;have tb:=aQ (i:=2) hblk);refine bodyPost_ret (v:=.tuple #[cb _,.bool true]) (by simp[results,results142,go_sem,cb,a7, *]) rfl ⟨rfl,?_⟩;exact(((vQ cT ah).setCell ap _).setCell ap _).setCell ap _
      ·rw[if_neg hle] at b1;subst b1;go_wp2_with fail;refine bodyPost_ret (v:=.tuple #[cb al.zero,.bool false]) (by simp[results,results142,go_sem,cb,al.zero,a7]) rfl ⟨rfl,?_⟩;exact cT
def Kp(l:List UInt8):Lib.hasSuffix l [39]=(l.getLast?==some 39):=by
 rw[Lib.hasSuffix,Bool.eq_iff_iff,List.isSuffixOf_iff_suffix,beq_iff_eq];constructor
 ·rintro⟨t,rfl⟩;simp
 ·intro h;obtain⟨t,rfl⟩:=List.getLast?_eq_some_iff.1 h;exact⟨t,rfl⟩
def QW(l:List UInt8):Lib.trimSuffix l [39]=if l.getLast?=some 39 then l.dropLast else l:=by
 rw[Lib.trimSuffix,Kp];by_cases h:l.getLast?=some 39
 ·rw[if_pos (by simpa using h),if_pos h,List.dropLast_eq_take];rfl
 ·rw[if_neg (by simpa using h),if_neg h]
def QX(T:e6)(closed:Bool)(gX:e6):Prop:=Lib.hasSuffix T.data.toList [39]=closed/\(⟨(Lib.trimSuffix T.data.toList [39]).toArray⟩:e6)=gX
def Kq(T:e6)(closed:Bool)(gX:e6)(w:World)(h:QX T closed gX)(hs:T.size<=maxLen):ey 210 #[.string T,.string ⟨#[39]⟩] w (ov w (.tuple #[.string gX,.bool closed])):=by refine(Tryz.strings_CutSuffix T ⟨#[39]⟩ w hs).mono ?_;rintro e w' ⟨rfl,rfl⟩;refine⟨?_,rfl⟩;rw[<-h.1,<-h.2]
def Kr(s:e6)(w:World)(hs:s.size<=281474976710656):ey 48 #[.string s] w (gU w (.string s)):=by go_enter func48,ntmps48;go_wp2_with (go_at_call 83;refine(Tryz.stringslite_Clone _ _ hs).mono ?_;rintro e w' ⟨rfl,A⟩);go_ret;exact⟨rfl,A⟩
def vU(l:List UInt8):al×Bool:=if l.tail.getLast?=some 39/\jf l.tail.dropLast=true then (⟨2,0,l.tail.dropLast⟩,true) else (al.zero,false)
def aa2(s:e6):∃(closed:Bool) (gX:e6),QX (s.extract 1 s.size) closed gX/\gX.size<=s.size/\(closed=true->vU s.data.toList=if jf gX.data.toList then (⟨2,0,gX.data.toList⟩,true) else (al.zero,false))/\(closed=false->vU s.data.toList=(al.zero,false)):=by
 have au:=Zp s;refine⟨_,_,⟨rfl,rfl⟩,?_,?_,?_⟩
 ·show(Lib.trimSuffix (s.extract 1 s.size).data.toList [39]).toArray.size<=_;rw[List.size_toArray,au,QW,<-mc];split
  ·rw[List.length_dropLast,List.length_tail];omega
  ·rw[List.length_tail];omega
 ·rw[au,Kp];intro h;have cC:s.data.toList.tail.getLast?=some 39:=by simpa using h
  show vU _=if jf (Lib.trimSuffix s.data.toList.tail [39])=true then (⟨2,0,Lib.trimSuffix s.data.toList.tail [39]⟩,true) else _
  rw[QW,if_pos cC,vU];by_cases hw:jf s.data.toList.tail.dropLast=true
  ·rw[if_pos ⟨cC,hw⟩,if_pos hw]
  ·rw[if_neg (fun e=>hw e.2),if_neg hw]
 ·rw[au,Kp];intro h;have cC:s.data.toList.tail.getLast?≠some 39:=by simpa using h
  rw[vU,if_neg (fun e=>cC e.1)]
def aa3(s:e6)(w:World)(hs:s.size<=2000000)(h1:1<=s.size):ey 141 #[.string s] w (gU w (.tuple #[cb (vU s.data.toList).1,.bool (vU s.data.toList).2])):=by
 obtain⟨closed,gX,ae,Bf,ti,b8⟩:=aa2 s;have bi:(s.extract 1 s.size).size<=maxLen:=by rw[Zq];unfold maxLen;omega
 have fz:gX.size<=maxLen:=by unfold maxLen;omega
 have og:(1:Int)<=(s.size:Int):=r;generalize b1:vU s.data.toList=cm at *;clear b1;cases closed
 ·obtain rfl:=b8 rfl;clear ti b8;go_enter func141,ntmps141;go_wp2_with (go_at_call 210;refine(Kq _ _ _ _ ae bi).mono ?_;rintro e w' ⟨rfl,rfl⟩);refine bodyPost_ret (v:=.tuple #[cb al.zero,.bool false]) (by simp[results,results141,go_sem,cb,al.zero,a7]) rfl ⟨rfl,?_⟩;exact cT
 ·have b1:=ti rfl;clear ti b8;generalize tj:jf gX.data.toList=wb at b1;have za:=u tj;clear tj;cases wb
  ·obtain rfl:cm=(al.zero,false):=b1;go_enter func141,ntmps141;go_wp2_with (first | (go_at_call 210;refine(Kq _ _ _ _ ae bi).mono ?_;rintro e w' ⟨rfl,rfl⟩) | (go_at_call 18;refine(Kf _ _ fz).mono ?_;rintro e w' ⟨rfl,rfl⟩;rw[za.d]));refine bodyPost_ret (v:=.tuple #[cb al.zero,.bool false]) (by simp[results,results141,go_sem,cb,al.zero,a7]) rfl ⟨rfl,?_⟩;exact cT
  ·obtain rfl:cm=(⟨2,0,gX.data.toList⟩,true):=b1;go_enter func141,ntmps141;go_wp2_with (first | (go_at_call 210;refine(Kq _ _ _ _ ae bi).mono ?_;rintro e w' ⟨rfl,rfl⟩) | (go_at_call 18;refine(Kf _ _ fz).mono ?_;rintro e w' ⟨rfl,rfl⟩;rw[za.d]) | (go_at_call 48;refine(Kr _ _ r).mono ?_;rintro e J ⟨rfl,bJ⟩) | (go_at_call 47;refine(Ki _ _).mono ?_;rintro e S ⟨rfl,ah⟩;have hblk:S.heap[w.heap.size]?=some (.cells #[q 0,q 0,.string ⟨#[]⟩] 112 (0,0)):=((vQ bJ ah).block _ (by simp)).trans (bH w _);have uV:=Z hblk (i:=0) rfl;have dG:=Z hblk (i:=1) rfl;have fg:=Z hblk (i:=2) rfl;have y8:=aQ (i:=0) hblk;have oV:=aQ (i:=1) hblk;have tb:=aQ (i:=2) hblk))
   refine bodyPost_ret (v:=.tuple #[cb ⟨2,0,gX.data.toList⟩,.bool true]) (by simp[results,results141,go_sem,cb,a7, *]) rfl ⟨rfl,?_⟩;exact(((vQ cT (vQ bJ ah)).setCell ap _).setCell ap _).setCell ap _
def QY(l:List UInt8):Lib.hasPrefix l [39]=(l.head?==some 39):=by
 cases l with
 | nil=>rfl
 | cons a C=>simp only[Lib.hasPrefix,List.isPrefixOf,Bool.and_true,List.head?_cons];rw[Bool.eq_iff_iff,beq_iff_eq,beq_iff_eq,Option.some_inj];exact eq_comm
def aa4(l:List UInt8):fy l=if l=[110,117,108,108] then (al.zero,true) else if l.head?=some 39 then vU l else Dg l:=rfl
def Dl(s:e6)(b:Bool):Prop:=Lib.hasPrefix s.data.toList [39]=b
def QZ(s:e6)(b:Bool)(w:World)(h:Dl s b):ey 140 #[.string s,.string ⟨#[39]⟩] w (ov w (.bool b)):=by refine(Tryz.strings_HasPrefix s ⟨#[39]⟩ w).mono ?_;rintro e w' ⟨rfl,rfl⟩;exact⟨by rw[<-h],rfl⟩
def Gz(s:e6)(w:World)(hs:s.size<=2000000):ey 94 #[.string s] w (gU w (.tuple #[cb (fy s.data.toList).1,.bool (fy s.data.toList).2])):=by
 have nL:s.size<=maxLen:=by unfold maxLen;omega
 generalize b1:fy s.data.toList=cm;rw[aa4] at b1;by_cases ar:s.data.toList=[110,117,108,108]
 ·have fE:(s.toList==[110,117,108,108])=true:=by rw[ByteArray.toList_eq,ar];rfl
  rw[if_pos ar] at b1;subst b1;clear ar;go_enter func94,ntmps94;go_wp2_with fail;refine bodyPost_ret (v:=.tuple #[cb al.zero,.bool true]) (by simp[results,results94,go_sem,cb,al.zero,a7]) rfl ⟨rfl,?_⟩;exact cT
 ·have fE:(s.toList==[110,117,108,108])=false:=by rw[ByteArray.toList_eq];simpa using ar
  rw[if_neg ar] at b1;clear ar;by_cases ae:s.data.toList.head?=some 39
  ·have xB:Dl s true:=by unfold Dl;rw[QY,ae];rfl
   have h1:1<=s.size:=by
    rw[<-mc];cases X:s.data.toList with
    | nil=>rw[X] at ae;cases ae
    | cons a C=>simp
   rw[if_pos ae] at b1;obtain⟨lO,rb⟩:=cm;have cK:=u b1;clear b1;clear ae;go_enter func94,ntmps94;go_wp2_with (first | (go_at_call 140;refine(QZ _ _ _ xB).mono ?_;rintro e w' ⟨rfl,rfl⟩) | (go_at_call 141;refine(aa3 _ _ hs h1).mono ?_;rintro e S ⟨rfl,ah⟩;have hblk:S.heap[w.heap.size]?=some (.cells #[q 0,q 0,.string ⟨#[]⟩] 112 (0,0)):=(ah.block _ (by simp)).trans (bH w _);have uV:=Z hblk (i:=0) rfl;have dG:=Z hblk (i:=1) rfl;have fg:=Z hblk (i:=2) rfl;have y8:=aQ (i:=0) hblk;have oV:=aQ (i:=1) hblk;have tb:=aQ (i:=2) hblk;rw[cK.d];simp only[cb]));refine bodyPost_ret (v:=.tuple #[cb lO,.bool rb]) (by simp[results,results94,go_sem,cb, *]) rfl ⟨rfl,?_⟩;exact(((vQ cT ah).setCell ap _).setCell ap _).setCell ap _
  ·have xB:Dl s false:=by unfold Dl;rw[QY];simpa using ae
   rw[if_neg ae] at b1;obtain⟨lO,rb⟩:=cm;have cK:=u b1;clear b1;clear ae;go_enter func94,ntmps94;go_wp2_with (first | (go_at_call 140;refine(QZ _ _ _ xB).mono ?_;rintro e w' ⟨rfl,rfl⟩) | (go_at_call 142;refine(aaQ _ _ nL).mono ?_;rintro e S ⟨rfl,ah⟩;have hblk:S.heap[w.heap.size]?=some (.cells #[q 0,q 0,.string ⟨#[]⟩] 112 (0,0)):=(ah.block _ (by simp)).trans (bH w _);have uV:=Z hblk (i:=0) rfl;have dG:=Z hblk (i:=1) rfl;have fg:=Z hblk (i:=2) rfl;have y8:=aQ (i:=0) hblk;have oV:=aQ (i:=1) hblk;have tb:=aQ (i:=2) hblk;rw[cK.d];simp only[cb]));refine bodyPost_ret (v:=.tuple #[cb lO,.bool rb]) (by simp[results,results94,go_sem,cb, *]) rfl ⟨rfl,?_⟩;exact(((vQ cT ah).setCell ap _).setCell ap _).setCell ap _
def Bg(lo:Nat)(w:World)(b:Nat)(s:e6)(k n:Nat)(xs:List Value):Prop:=lo<=b/\∃v,eA w b s k v/\w.ownsRow lo 237 2 v n xs
def eA.below{s:e6}(h:eA w b s k v)(A:eB w w'):eA w' b s k v:=(A.block b h.lt).trans h
def ee(h:w.ownsRow lo e size v n xs)(A:eB w w'):w'.ownsRow lo e size v n xs:=by
 refine⟨h.1,?_⟩;rcases h.2 with ar | ⟨g,af,ay,rfl,X,en,rest⟩
 ·exact .inl ar
 ·exact .inr ⟨g,af,ay,rfl,X,(A.block g (br en).1).trans en,rest⟩
def aa5(lo b:Nat)(s:e6)(k e:Nat)(fX:Int)(v:Value)(n:Nat)(xs:List Value)(w:World)(h:eA w b s k v)(an:w.ownsRow lo 237 2 v n xs)(eI:lo<=b)(ar:n<=1000000)(hs:s.size<=1000000)(hk:k<=e)(he:e<=s.size)(Ks:(fX != 0)=true):ey 214 #[M b,q fX,q (e:Int)] w fun x w'=>x=.returned (.bool (fy (sub s k e)).2)/\Bg lo w' b s e (n+1) (xs++[q fX,.string (s.extract k e)])/\Below lo w w':=by
 obtain⟨bk,c1,c2⟩:=h.cells;have cY:=h.lt;have Bh:(s.extract k e).size<=2000000:=by rw[ByteArray.size_extract];omega
 generalize b1:fy (sub s k e)=cm;obtain⟨lO,rb⟩:=cm;have cK:Hid (fy (s.extract k e).data.toList=(lO,rb)):=u b1;clear b1;go_enter func214,ntmps214;go_wp2_with fail;go_region_law (go_simp;go_at_call 94;refine(Gz _ _ Bh).mono ?_;rintro am S ⟨rfl,ah⟩;rw[cK.d];simp only[cb];first | (have hblk:S.heap[w.heap.size]?=some (.cells #[q 0,q 0,.string ⟨#[]⟩] 112 (0,0)):=(ah.block _ (by simp)).trans (bH w _);have uV:=Z hblk (i:=0) rfl;have dG:=Z hblk (i:=1) rfl;have fg:=Z hblk (i:=2) rfl;have y8:=aQ (i:=0) hblk;have oV:=aQ (i:=1) hblk;have tb:=aQ (i:=2) hblk) | skip);all_goals
  have vV:eB w S:=by first | exact vQ (cT.drew) ah | exact vQ ((Below.refl _ _).drew) ah
  cases rb;all_goals
   go_wp2_with (go_at_call 213;refine(Ka lo b s k e fX v n xs _ (h.below (by first | exact(((vV.setCell ap _).setCell ap _).setCell ap _) | exact vV.alloc vV.size _)) (ee an (by first | exact(((vV.setCell ap _).setCell ap _).setCell ap _) | exact vV.alloc vV.size _)) eI ar hs hk he).mono ?_;rintro bm aA ⟨rfl,⟨v3,oh,ie⟩,cg⟩;rw[Ks]);go_ret;refine⟨rfl,⟨eI,v3,oh,ie⟩,Below.trans ?_ cg⟩;first | exact(((vV.setCell ap _).setCell ap _).setCell ap _).mono r | exact(vV.alloc vV.size _).mono r
def Dm(c:UInt8)(i:Int):Prop:=Lib.indexByte gw c=i
def Q0(c:UInt8)(i:Int)(w:World)(h:Dm c i):ey 269 #[.string ⟨#[40,41,44,46,61,60,62,43,45,42]⟩,.int .u8 (c.toNat:Int)] w (ov w (q i)):=by refine(Tryz.strings_IndexByte _ _ w).mono ?_;rintro e w' ⟨rfl,rfl⟩;refine⟨?_,rfl⟩;rw[aaI,<-h];rfl
def aa6(lo b:Nat)(s:e6)(k:Nat)(c:UInt8)(v:Value)(n:Nat)(xs:List Value)(w:World)(h:eA w b s k v)(an:w.ownsRow lo 237 2 v n xs)(eI:lo<=b)(ar:n<=1000000)(hs:s.size<=1000000)(hk:k<s.size)(ai:gw.contains c=true):ey 218 #[M b,.int .u8 (c.toNat:Int)] w fun x w'=>x=.returned (.bool true)/\Bg lo w' b s (k+1) (n+1) (xs++[q ((4+gw.idxOf c:Nat):Int),.string (s.extract k (k+1))])/\Below lo w w':=by
 obtain⟨bk,c1,c2⟩:=h.cells;have hi:Dm c (gw.idxOf c:Nat):=by unfold Dm;rw[QD,if_pos ai]
 have aD:gw.idxOf c<10:=by have:=List.idxOf_lt_length_of_mem (by simpa using ai:c∈gw);exact this
 generalize gw.idxOf c=i at *;clear ai;have nM:(0:Int)<=(i:Int):=r;have q8:IntKind.i64.wrap (4+(i:Int))=4+(i:Int):=mC;have q9:IntKind.i64.wrap ((k:Int)+1)=(k:Int)+1:=mC;have cy:((4+(i:Int)) != 0)=true:=by rw[bne_iff_ne];omega
 have Q1:=Ka lo b s k (k+1) (4+(i:Int)) v n xs w h an eI ar hs r r;go_enter func218,ntmps218;go_wp2_with (first | (go_at_call 269;refine(Q0 _ _ _ hi).mono ?_;rintro e w' ⟨rfl,rfl⟩) | (go_at_call 213;refine Q1.mono ?_;rintro bm aA ⟨rfl,⟨v3,oh,ie⟩,cg⟩;rw[cy]));go_ret;exact⟨rfl,⟨eI,v3,oh,ie⟩,cg⟩
def Q2(b:Nat)(c:UInt8)(w:World)(ai:gw.contains c=false):ey 218 #[M b,.int .u8 (c.toNat:Int)] w fun x w'=>x=.returned (.bool false)/\w=w':=by
 have hi:Dm c (-1):=by unfold Dm;rw[QD,ai];rfl
 go_enter func218,ntmps218;go_wp2_with (go_at_call 269;refine(Q0 _ _ _ hi).mono ?_;rintro e w' ⟨rfl,rfl⟩);go_ret;exact⟨rfl,rfl⟩
def vW(lo:Nat)(w:World)(b:Nat)(s:e6)(E n:Nat)(xs:List Value)(fX:Int)(k:Nat)(ok:Bool)(x:Ending)(w':World):Prop:=x=.returned (.bool ok)/\Bg lo w' b s E (n+1) (xs++[q fX,.string (s.extract k E)])/\Below lo w w'
def below_drewN(lo:Nat)(w:World)(n:Nat):Below lo w (w.drewN n):=⟨rfl,rfl,rfl,ap,fun _ _=>rfl⟩
def aa7(lo b:Nat)(s:e6)(k e:Nat)(fX:Int)(v:Value)(n:Nat)(xs:List Value)(w W:World)(aO:W.heap=w.heap)(h:eA w b s k v)(an:w.ownsRow lo 237 2 v n xs)(eI:lo<=b)(ar:n<=1000000)(hs:s.size<=1000000)(hk:k<=e)(he:e<=s.size):ey 213 #[M b,q fX,q (e:Int)] W (vW lo W b s e n xs fX k (fX != 0)):=by refine(Ka lo b s k e fX v n xs W (by unfold eA at h ⊢;rw[aO];exact h) (by unfold World.ownsRow at an ⊢;rw[aO];exact an) eI ar hs hk he).mono ?_;rintro x w' ⟨h1,H,ab⟩;exact⟨h1,⟨eI,H⟩,ab⟩
def Kt(lo b:Nat)(s:e6)(k e:Nat)(fX:Int)(v:Value)(n:Nat)(xs:List Value)(w W:World)(aO:W.heap=w.heap)(h:eA w b s k v)(an:w.ownsRow lo 237 2 v n xs)(eI:lo<=b)(ar:n<=1000000)(hs:s.size<=1000000)(hk:k<=e)(he:e<=s.size)(Ks:(fX != 0)=true):ey 214 #[M b,q fX,q (e:Int)] W (vW lo W b s e n xs fX k (fy (sub s k e)).2):=by refine(aa5 lo b s k e fX v n xs W (by unfold eA at h ⊢;rw[aO];exact h) (by unfold World.ownsRow at an ⊢;rw[aO];exact an) eI ar hs hk he Ks).mono ?_;rintro x w' ⟨h1,H,ab⟩;exact⟨h1,H,ab⟩
def aa8(p:e6)(w W:World)(aO:W.heap=w.heap)(R:et w)(hs:p.size<=1000000):ey 57 #[.string p] W fun x w'=>x=.returned (q (kx p.data.toList:Int))/\W=w':=Qx p W (R.kept (by rw[aO];exact ap) (fun _ _=>by rw[aO])) r
def aa9(lo b:Nat)(s:e6)(k:Nat)(v:Value)(n:Nat)(xs:List Value)(w:World)(h:eA w b s k v)(an:w.ownsRow lo 237 2 v n xs)(R:et w)(eI:lo<=b)(ar:n<=1000000)(hs:s.size<=1000000)(hk:k<s.size)(X:isLet s[k]=true):ey 144 #[M b] w (vW lo w b s (cR isLet s k) n xs (kx (sub s k (cR isLet s k)):Int) k (((kx (sub s k (cR isLet s k)):Nat):Int) != 0)):=by
 obtain⟨bk,c1,c2⟩:=h.cells;have gi:(k:Int)<(s.size:Int):=r;have hW:=u X;clear X;have nr:=pv isLet s k;have re:=s5 isLet s k r;have bK:∀W,ey 56 #[.string s,q (k:Int)] W fun e w'=>e=.returned (q (cR isLet s k:Int))/\w'=W:=fun W=>(P8 s k W (by unfold maxLen;omega) r).mono fun _ _ h=>⟨h.1,h.2.symm⟩;generalize cR isLet s k=E at *;have aba:=u bK;clear bK;generalize lP:kx (sub s k E)=iC;have jF:Hid (kx (s.extract k E).data.toList=iC):=u lP;clear lP;have Bh:(s.extract k E).size<=1000000:=by rw[ByteArray.size_extract];omega
 have nL:s.size<=maxLen:=by unfold maxLen;omega
 have arm:(k:Int)<=(E:Int):=r;have arn:(E:Int)<=(s.size:Int):=r;go_enter func144,ntmps144;go_wp2_with fail;go_quiet (fail);have fN:=below_drewN lo w nq;have abb:et (w.drewN nq):=R.drewN nq;have oW:(w.drewN nq).ownsRow lo 237 2 v n xs:=an;have aO:eA (w.drewN nq) b s k v:=h;generalize w.drewN nq=W at *;obtain⟨d0,d1,d2⟩:=aO.cells;go_wp2_with (go_at_call 36;refine(sc _ _).mono ?_;rintro e w' ⟨rfl,rfl⟩;rw[hW.d]);go_quiet ((go_at_call 56;exact Calls.quiet_of_same (aba.d _)));go_wp2_with fail;go_region_law (first
  | (go_simp;go_at_call 57;refine(aa8 _ W _ (by rfl) abb Bh).mono ?_;rintro e w' ⟨rfl,rfl⟩;rw[jF.d])
  | (go_simp;go_at_call 213;refine(aa7 lo b s k E _ v n xs W _ (by rfl) aO oW eI ar hs nr re).mono ?_;rintro bm aA ⟨rfl,oh,cg⟩))
 all_goals
  go_wp2_with fail;go_ret;exact⟨rfl,oh,fN.trans ((below_drewN _ _ _).trans cg)⟩
def abc(lo b:Nat)(s:e6)(k:Nat)(v:Value)(n:Nat)(xs:List Value)(w:World)(h:eA w b s k v)(an:w.ownsRow lo 237 2 v n xs)(eI:lo<=b)(ar:n<=1000000)(hs:s.size<=1000000)(hk:k<s.size)(X:isLet s[k]=false)(bb:cI s[k]=true):ey 144 #[M b] w (vW lo w b s (cR cI s (k+1)) n xs 2 k (fy (sub s k (cR cI s (k+1)))).2):=by
 obtain⟨bk,c1,c2⟩:=h.cells;have gi:(k:Int)<(s.size:Int):=r;have nr:=pv cI s k;have re:=s5 cI s k r;rw[<-yW cI s k hk bb];have qt:∀W,ey 215 #[.string s,q (k:Int)] W (ov W (q (cR cI s k:Int))):=fun W=>P9 s k W (by unfold maxLen;omega) r;generalize cR cI s k=E at *;have bK:=u qt;clear qt;generalize tk:(fy (sub s k E)).2=ok;have fb:=u tk;have hW:=u X;have ht:=u bb;clear tk X bb;go_enter func144,ntmps144;go_wp2_with fail;go_quiet (fail);have fN:=below_drewN lo w nq;have oW:(w.drewN nq).ownsRow lo 237 2 v n xs:=an;have aO:eA (w.drewN nq) b s k v:=h;generalize w.drewN nq=W at *;obtain⟨d0,d1,d2⟩:=aO.cells
 go_wp2_with (first | (go_at_call 36;refine(sc _ _).mono ?_;rintro e w' ⟨rfl,rfl⟩;rw[hW.d]) | (go_at_call 37;refine(px _ _).mono ?_;rintro e w' ⟨rfl,rfl⟩;rw[ht.d]));go_region_law (first | (go_simp;go_at_call 215;refine(bK.d _).mono ?_;rintro e w' ⟨rfl,rfl⟩) | (go_simp;go_at_call 214;refine(Kt lo b s k E 2 v n xs W _ (by rfl) aO oW eI ar hs r r K).mono ?_;rintro bm aA ⟨rfl,oh,cg⟩;rw[fb.d]));all_goals
  go_wp2_with fail;go_ret;exact⟨rfl,oh,fN.trans ((below_drewN _ _ _).trans cg)⟩
def abd(lo b:Nat)(s:e6)(k:Nat)(v:Value)(ts:e4)(w:World)(h:eA w b s k v)(an:w.ownsRow lo 237 2 v ts.length (gn ts))(eI:lo<=b)(ar:ts.length<=1000000)(hs:s.size<=1000000)(hk:k<s.size)(ai:s[k]=45)(hm:oe s k (nI ts)=true):ey 144 #[M b] w (vW lo w b s (cR cI s (k+1)) ts.length (gn ts) 2 k (fy (sub s k (cR cI s (k+1)))).2):=by
 obtain⟨bk,c1,c2⟩:=h.cells;have gi:(k:Int)<(s.size:Int):=r;have bZ:k+1<s.size:=by unfold oe at hm;simp only[Bool.and_eq_true,decide_eq_true_eq] at hm;exact hm.1.1
 have nr:=pv cI s (k+1);have re:=s5 cI s (k+1) r;have qt:∀W,ey 215 #[.string s,q ((k:Int)+1)] W (ov W (q (cR cI s (k+1):Int))):=fun W=>P9 s (k+1) W (by unfold maxLen;omega) r;generalize cR cI s (k+1)=E at *;have bK:=u qt;clear qt;generalize tk:(fy (sub s k E)).2=ok;have fb:=u tk;have hW:Hid (isLet s[k]=false):=u (by rw[ai];decide);have ht:Hid (cI s[k]=false):=u (by rw[ai];decide);have y4:((s[k].toNat:Int)==45)=true:=by rw[ai];decide
 have hT:=u hm;have fr:IntKind.i64.wrap ((k:Int)+1)=(k:Int)+1:=mC;clear tk ai hm;go_enter func144,ntmps144;go_wp2_with fail;go_quiet (fail);have fN:=below_drewN lo w nq;have oW:(w.drewN nq).ownsRow lo 237 2 v ts.length (gn ts):=an;have aO:eA (w.drewN nq) b s k v:=h;generalize w.drewN nq=W at *;obtain⟨d0,d1,d2⟩:=aO.cells;go_upto_region 8 with(first | (go_at_call 36;refine(sc _ _).mono ?_;rintro e w' ⟨rfl,rfl⟩;rw[hW.d]) | (go_at_call 37;refine(px _ _).mono ?_;rintro e w' ⟨rfl,rfl⟩;rw[ht.d]) | (go_at_call 216;refine(Kc lo b s k v ts _ aO oW ar hs hk).mono ?_;rintro e w' ⟨rfl,U,rfl⟩;rw[hT.d]))
 go_region_law (first | (go_simp;go_at_call 215;refine(bK.d _).mono ?_;rintro e w' ⟨rfl,rfl⟩) | (go_simp;go_at_call 214;refine(Kt lo b s k E 2 v ts.length (gn ts) W _ (by rfl) aO oW eI ar hs r r K).mono ?_;rintro bm aA ⟨rfl,oh,cg⟩;rw[fb.d]));all_goals
  go_wp2_with fail;go_ret;exact⟨rfl,oh,fN.trans ((below_drewN _ _ _).trans cg)⟩
def abe(lo b:Nat)(s:e6)(k:Nat)(v:Value)(n:Nat)(xs:List Value)(w:World)(h:eA w b s k v)(an:w.ownsRow lo 237 2 v n xs)(eI:lo<=b)(ar:n<=1000000)(hs:s.size<=1000000)(hk:k<s.size)(ai:s[k]=39):ey 144 #[M b] w (vW lo w b s (jh s k) n xs 3 k (fy (sub s k (jh s k))).2):=by
 obtain⟨bk,c1,c2⟩:=h.cells;have gi:(k:Int)<(s.size:Int):=r;have nr:k<=jh s k:=by have:=pv gG s (k+1);unfold jh;split<;>omega
 have re:jh s k<=s.size:=by unfold jh;split<;>omega
 have qt:∀W,ey 217 #[.string s,q (k:Int)] W (ov W (q (jh s k:Int))):=fun W=>aaJ s k W hs hk;generalize jh s k=E at *;have bK:=u qt;clear qt;generalize tk:(fy (sub s k E)).2=ok;have fb:=u tk;have hW:Hid (isLet s[k]=false):=u (by rw[ai];decide);have ht:Hid (cI s[k]=false):=u (by rw[ai];decide);have y4:((s[k].toNat:Int)==45)=false:=by rw[ai];decide
 have Q3:((s[k].toNat:Int)==39)=true:=by rw[ai];decide
 clear tk ai;go_enter func144,ntmps144;go_wp2_with fail;go_quiet (fail);have fN:=below_drewN lo w nq;have oW:(w.drewN nq).ownsRow lo 237 2 v n xs:=an;have aO:eA (w.drewN nq) b s k v:=h;generalize w.drewN nq=W at *;obtain⟨d0,d1,d2⟩:=aO.cells;go_wp2_with (first | (go_at_call 36;refine(sc _ _).mono ?_;rintro e w' ⟨rfl,rfl⟩;rw[hW.d]) | (go_at_call 37;refine(px _ _).mono ?_;rintro e w' ⟨rfl,rfl⟩;rw[ht.d]));go_region_law (first | (go_simp;go_at_call 217;refine(bK.d _).mono ?_;rintro e w' ⟨rfl,rfl⟩) | (go_simp;go_at_call 214;refine(Kt lo b s k E 3 v n xs W _ (by rfl) aO oW eI ar hs r r K).mono ?_;rintro bm aA ⟨rfl,oh,cg⟩;rw[fb.d]));all_goals
  go_wp2_with fail;go_ret;exact⟨rfl,oh,fN.trans ((below_drewN _ _ _).trans cg)⟩
def Bg.of{s:e6}(W:World)(aO:W.heap=w.heap)(h:eA w b s k v)(an:w.ownsRow lo 237 2 v n xs):eA W b s k v/\W.ownsRow lo 237 2 v n xs:=⟨by unfold eA at h ⊢;rw[aO];exact h,by unfold World.ownsRow at an ⊢;rw[aO];exact an⟩
def Q4(lo b:Nat)(s:e6)(k:Nat)(c:UInt8)(v:Value)(n:Nat)(xs:List Value)(w W:World)(aO:W.heap=w.heap)(h:eA w b s k v)(an:w.ownsRow lo 237 2 v n xs)(eI:lo<=b)(ar:n<=1000000)(hs:s.size<=1000000)(hk:k<s.size)(ai:gw.contains c=true):ey 218 #[M b,.int .u8 (c.toNat:Int)] W (vW lo W b s (k+1) n xs ((4+gw.idxOf c:Nat):Int) k true):=by obtain⟨h1,H⟩:=Bg.of W aO h an;refine(aa6 lo b s k c v n xs W h1 H eI ar hs hk ai).mono ?_;rintro x w' ⟨a,b,c⟩;exact⟨a,b,c⟩
def abf(lo b:Nat)(s:e6)(k:Nat)(v:Value)(ts:e4)(w:World)(h:eA w b s k v)(an:w.ownsRow lo 237 2 v ts.length (gn ts))(eI:lo<=b)(ar:ts.length<=1000000)(hs:s.size<=1000000)(hk:k<s.size)(X:isLet s[k]=false)(bb:cI s[k]=false)(ae:(s[k]==39)=false)(hm:s[k]=45->oe s k (nI ts)=false)(sj:gw.contains s[k]=true):ey 144 #[M b] w (vW lo w b s (k+1) ts.length (gn ts) ((4+gw.idxOf s[k]:Nat):Int) k true):=by
 obtain⟨bk,c1,c2⟩:=h.cells;have gi:(k:Int)<(s.size:Int):=r;have hW:=u X;have ht:=u bb;have Q3:((s[k].toNat:Int)==39)=false:=by rw[cV] at ae ⊢;intro e;exact ae (by rw[<-UInt8.toNat_inj];simpa using (by omega:s[k].toNat=39))
 clear X bb ae;by_cases ai:s[k]=45
 ·have hT:=u (hm ai);have y4:((s[k].toNat:Int)==45)=true:=by rw[ai];decide
  clear hm ai;go_enter func144,ntmps144;go_wp2_with fail;go_quiet (fail);have fN:=below_drewN lo w nq;have oW:(w.drewN nq).ownsRow lo 237 2 v ts.length (gn ts):=an;have aO:eA (w.drewN nq) b s k v:=h;generalize w.drewN nq=W at *;obtain⟨d0,d1,d2⟩:=aO.cells;go_wp2_with (first | (go_at_call 36;refine(sc _ _).mono ?_;rintro e w' ⟨rfl,rfl⟩;rw[hW.d]) | (go_at_call 37;refine(px _ _).mono ?_;rintro e w' ⟨rfl,rfl⟩;rw[ht.d]) | (go_at_call 216;refine(Kc lo b s k v ts _ aO oW ar hs hk).mono ?_;rintro e w' ⟨rfl,U,rfl⟩;rw[hT.d]) | (go_at_call 218;refine(Q4 lo b s k s[k] v ts.length (gn ts) W _ (by rfl) aO oW eI ar hs hk sj).mono ?_;rintro bm aA ⟨rfl,oh,cg⟩));go_ret;exact⟨rfl,oh,fN.trans (Below.trans (by first | exact Below.refl _ _ | exact below_drewN _ _ _) cg)⟩
 ·have y4:((s[k].toNat:Int)==45)=false:=by rw[cV];intro e;exact ai (by rw[<-UInt8.toNat_inj];simpa using (by omega:s[k].toNat=45))
  clear hm ai;go_enter func144,ntmps144;go_wp2_with fail;go_quiet (fail);have fN:=below_drewN lo w nq;have oW:(w.drewN nq).ownsRow lo 237 2 v ts.length (gn ts):=an;have aO:eA (w.drewN nq) b s k v:=h;generalize w.drewN nq=W at *;obtain⟨d0,d1,d2⟩:=aO.cells;go_wp2_with (first | (go_at_call 36;refine(sc _ _).mono ?_;rintro e w' ⟨rfl,rfl⟩;rw[hW.d]) | (go_at_call 37;refine(px _ _).mono ?_;rintro e w' ⟨rfl,rfl⟩;rw[ht.d]) | (go_at_call 218;refine(Q4 lo b s k s[k] v ts.length (gn ts) W _ (by rfl) aO oW eI ar hs hk sj).mono ?_;rintro bm aA ⟨rfl,oh,cg⟩));go_ret;exact⟨rfl,oh,fN.trans (Below.trans (by first | exact Below.refl _ _ | exact below_drewN _ _ _) cg)⟩
def abg(lo b:Nat)(s:e6)(k:Nat)(v:Value)(ts:e4)(w:World)(h:eA w b s k v)(an:w.ownsRow lo 237 2 v ts.length (gn ts))(aro:lo<=b)(ar:ts.length<=1000000)(hs:s.size<=1000000)(hk:k<s.size)(X:isLet s[k]=false)(bb:cI s[k]=false)(ae:(s[k]==39)=false)(hm:s[k]=45->oe s k (nI ts)=false)(sj:gw.contains s[k]=false):ey 144 #[M b] w (fun x w'=>x=.returned (.bool false)/\Below lo w w'):=by
 obtain⟨bk,c1,c2⟩:=h.cells;have gi:(k:Int)<(s.size:Int):=r;have hW:=u X;have ht:=u bb;have Q3:((s[k].toNat:Int)==39)=false:=by rw[cV] at ae ⊢;intro e;exact ae (by rw[<-UInt8.toNat_inj];simpa using (by omega:s[k].toNat=39))
 clear X bb ae;by_cases ai:s[k]=45
 ·have hT:=u (hm ai);have y4:((s[k].toNat:Int)==45)=true:=by rw[ai];decide
  clear hm ai;go_enter func144,ntmps144;go_wp2_with fail;go_quiet (fail);have fN:=below_drewN lo w nq;have oW:(w.drewN nq).ownsRow lo 237 2 v ts.length (gn ts):=an;have aO:eA (w.drewN nq) b s k v:=h;generalize w.drewN nq=W at *;obtain⟨d0,d1,d2⟩:=aO.cells;go_wp2_with (first | (go_at_call 36;refine(sc _ _).mono ?_;rintro e w' ⟨rfl,rfl⟩;rw[hW.d]) | (go_at_call 37;refine(px _ _).mono ?_;rintro e w' ⟨rfl,rfl⟩;rw[ht.d]) | (go_at_call 216;refine(Kc lo b s k v ts _ aO oW ar hs hk).mono ?_;rintro e w' ⟨rfl,U,rfl⟩;rw[hT.d]) | (go_at_call 218;refine(Q2 b s[k] _ sj).mono ?_;rintro bm aA ⟨rfl,rfl⟩));go_ret;exact⟨rfl,fN.trans (by first | exact Below.refl _ _ | exact below_drewN _ _ _)⟩
 ·have y4:((s[k].toNat:Int)==45)=false:=by rw[cV];intro e;exact ai (by rw[<-UInt8.toNat_inj];simpa using (by omega:s[k].toNat=45))
  clear hm ai;go_enter func144,ntmps144;go_wp2_with fail;go_quiet (fail);have fN:=below_drewN lo w nq;have oW:(w.drewN nq).ownsRow lo 237 2 v ts.length (gn ts):=an;have aO:eA (w.drewN nq) b s k v:=h;generalize w.drewN nq=W at *;obtain⟨d0,d1,d2⟩:=aO.cells;go_wp2_with (first | (go_at_call 36;refine(sc _ _).mono ?_;rintro e w' ⟨rfl,rfl⟩;rw[hW.d]) | (go_at_call 37;refine(px _ _).mono ?_;rintro e w' ⟨rfl,rfl⟩;rw[ht.d]) | (go_at_call 218;refine(Q2 b s[k] _ sj).mono ?_;rintro bm aA ⟨rfl,rfl⟩));go_ret;exact⟨rfl,fN.trans (by first | exact Below.refl _ _ | exact below_drewN _ _ _)⟩
def pC(ts:e4):List UInt8:=(ts.getLast?.getD ⟨#[]⟩).data.toList
def abh(ts:e4):nI ts=dn (pC ts):=by
 unfold nI pC dD;cases ts.getLast? with
 | none=>rfl
 | some t=>rfl
def tl(ts:e4):Prop:=∀t∈ts,dD t≠0
def abi(h:tl ts):pC ts=[]\/dn (pC ts)≠0:=by
 unfold pC;cases X:ts.getLast? with
 | none=>exact Or.inl rfl
 | some t=>exact Or.inr (h t (List.mem_of_getLast? X))
def Q5(h:tl ts){s:e6}(hk:k<s.size)(ai:s[k]=45):pt s k (pC ts)=oe s k (nI ts):=by unfold pt oe;rw[pu s k hk,ai,ZF _ (abi h),abh];cases vN (dn (pC ts))<;>cases decide (k+1<s.size)<;>cases cI s[k+1]!<;>rfl
def abj{s:e6}(hk:k<s.size)(ai:s[k]≠45):pt s k last=false:=by
 unfold pt;rw[pu s k hk];have:(s[k]==45)=false:=by simpa using ai
 rw[this];rfl
def Ku(lo:Nat)(w:World)(b:Nat)(s:e6)(ts:e4)(o:Option (Option (List UInt8)×Nat))(x:Ending)(w':World):Prop:=(∃t jY,o=some (some t.data.toList,jY)/\x=.returned (.bool true)/\Bg lo w' b s jY (ts.length+1) (gn (ts++[t]))/\dD t≠0/\Below lo w w')\/(o=none/\x=.returned (.bool false)/\Below lo w w')
def Dn{s:e6}{E:Nat}{fX:Int}{ok:Bool}{x:Ending}{o:Option (Option (List UInt8)×Nat)}(h:vW lo w b s E ts.length (gn ts) fX k ok x w')(ct:o=if ok=true then some (some (sub s k E),E) else none)(hk:ok=true->(dn (sub s k E):Int)=fX/\fX≠0):Ku lo w b s ts o x w':=by
 obtain⟨h1,H,ab⟩:=h;cases ok
 ·exact Or.inr ⟨ct,h1,ab⟩
 ·obtain⟨aI,aZ⟩:=hk rfl;refine Or.inl ⟨s.extract k E,E,ct,h1,?_,?_,ab⟩
  ·rw[Ql];have:(dD (s.extract k E):Int)=fX:=aI;rw[this];exact H
  ·intro e;have:(dD (s.extract k E):Int)=fX:=aI;rw[e] at this;exact aZ this.symm
def abk(lo b:Nat)(s:e6)(k:Nat)(v:Value)(ts:e4)(w:World)(h:eA w b s k v)(an:w.ownsRow lo 237 2 v ts.length (gn ts))(R:et w)(eI:lo<=b)(ar:ts.length<=1000000)(hs:s.size<=1000000)(hk:k<s.size)(A:(s[k]==32)=false)(mf:tl ts):ey 144 #[M b] w (Ku lo w b s ts (kW s k (pC ts))):=by
 by_cases X:isLet s[k]=true
 ·obtain⟨Y,am⟩:=ZU (last:=pC ts) hk X;refine(aa9 lo b s k v ts.length (gn ts) w h an R eI ar hs hk X).mono fun x w' aa=>Dn aa ?_ ?_
  ·rw[Y];by_cases aY:kx (sub s k (cR isLet s k))=0
   ·rw[if_pos aY,if_neg (by rw[aY];decide)]
   ·rw[if_neg aY,if_pos (by rw[bne_iff_ne];omega)]
  ·intro aa;have aY:kx (sub s k (cR isLet s k))≠0:=by intro e;rw[e] at aa;revert aa;decide
   exact⟨by rw[am aY],r⟩
 have me:isLet s[k]=false:=by cases e:isLet s[k]<;>simp_all
 by_cases bb:cI s[k]=true
 ·obtain⟨Y,am⟩:=Qq (last:=pC ts) hk (Or.inl bb);refine(abc lo b s k v ts.length (gn ts) w h an eI ar hs hk me bb).mono fun x w' aa=>Dn aa Y fun e=>⟨by rw[am e];rfl,K⟩
 have Kv:cI s[k]=false:=by cases e:cI s[k]<;>simp_all
 by_cases ae:s[k]=39
 ·obtain⟨Y,am⟩:=ZV (last:=pC ts) hk ae;refine(abe lo b s k v ts.length (gn ts) w h an eI ar hs hk ae).mono fun x w' aa=>Dn aa Y fun _=>⟨by rw[am];rfl,K⟩
 have zb:(s[k]==39)=false:=by simpa using ae
 have sign:pt s k (pC ts)=false->(s[k]=45->oe s k (nI ts)=false)->ey 144 #[M b] w (Ku lo w b s ts (kW s k (pC ts))):=by
  intro np Q6;obtain⟨Y,am⟩:=ZW (last:=pC ts) hk A me Kv np zb;by_cases sj:gw.contains s[k]=true
  ·refine(abf lo b s k v ts w h an eI ar hs hk me Kv zb Q6 sj).mono fun x w' aa=>Dn aa ?_ fun _=>⟨by rw[am sj],r⟩;rw[Y,if_pos sj,if_pos rfl]
  ·have abl:gw.contains s[k]=false:=by cases e:gw.contains s[k]<;>simp_all
   refine(abg lo b s k v ts w h an eI ar hs hk me Kv zb Q6 abl).mono fun x w' aa=>Or.inr ⟨?_,aa.1,aa.2⟩;rw[Y,if_neg sj]
 by_cases ai:s[k]=45
 ·by_cases hm:oe s k (nI ts)=true
  ·obtain⟨Y,am⟩:=Qq (last:=pC ts) hk (Or.inr (by rw[Q5 mf hk ai];exact hm));refine(abd lo b s k v ts w h an eI ar hs hk ai hm).mono fun x w' aa=>Dn aa Y fun e=>⟨by rw[am e];rfl,K⟩
  ·have Q7:oe s k (nI ts)=false:=by cases e:oe s k (nI ts)<;>simp_all
   exact sign (by rw[Q5 mf hk ai];exact Q7) (fun _=>Q7)
 ·exact sign (abj hk ai) (fun e=>absurd e ai)
def Do(ts:e4):e6:=ts.getLast?.getD ⟨#[]⟩
def abm(ts:e4)(t:e6):Do (ts++[t])=t:=by simp[Do]
def nn.skip{s:e6}{last:e6}:∀(n k:Nat),s.size-k=n->k<=s.size->nn s k ts last->nn s (cR oU s k) ts last:=by
 intro n;induction n with
 | zero=>intro k ar hk h;rw[Gf _ _ _ r];exact h
 | succ n aH=>
  intro k ar hk h;have aD:k<s.size:=r;cases A:oU s[k]
  ·rw[C7 _ _ _ aD A];exact h
  ·rw[yW _ _ _ aD A];refine aH (k+1) r aD (h.blank aD ?_);unfold kW;have:(s[k]==32)=true:=A;rw[pu s k aD,this];rfl
def Q8(s:e6)(k:Nat)(hk:k<=s.size)(h:cR oU s k<s.size):(s[cR oU s k]==32)=false:=Qo h hk
def abn(s:e6)(w:World)(e:Ending)(w':World):Prop:=(∃(v:Value) (ts:e4),ku s=some (ts.map (·.data.toList))/\tl ts/\ts.length<=s.size/\e=.returned (.tuple #[v,.bool true])/\w'.ownsRow w.heap.size 237 2 v ts.length (gn ts)/\eB w w')\/(ku s=none/\e=.returned (.tuple #[.slice none 0 0,.bool false])/\eB w w')
def vX(w:World)(s:e6)(wr:World)(k:Nat)(ts:e4):Prop:=(∃v,eA wr w.heap.size s k v/\wr.ownsRow w.heap.size 237 2 v ts.length (gn ts))/\eB w wr/\nn s k ts (Do ts)/\tl ts/\k<=s.size
def vX.len{s:e6}{wr:World}(h:vX w s wr k ts):ts.length<=s.size:=bX h.2.2.1.1 h.2.2.2.2
def abo{s:e6}{x:Option (List UInt8)×Nat}(hk:k<s.size)(h:kW s k last=some x):k<x.2/\x.2<=s.size:=A3 hk h
def vX.skip{w:World}{s:e6}{wr w':World}{k:Nat}{ts:e4}{v:Value}(an:wr.ownsRow w.heap.size 237 2 v ts.length (gn ts))(A:eB w wr)(hi:nn s k ts (Do ts))(mf:tl ts)(hk:k<=s.size)(ta:eA wr w.heap.size s k v)(h1:eA w' w.heap.size s (cR oU s k) v)(H:wr.grownBy w' (some w.heap.size)):vX w s w' (cR oU s k) ts:=by
 refine⟨⟨v,h1,an.kept H ?_⟩,A.grown H (by have:=A.size;omega) (fun k e=>by cases e;exact ap),hi.skip _ _ rfl hk,mf,s5 _ _ _ hk⟩;rcases an.2 with⟨rfl,_⟩ | ⟨g,af,ay,rfl,_,ed,_⟩
 ·exact Or.inl rfl
 ·refine Or.inr fun e=>?_;obtain rfl:g=w.heap.size:=by simpa [Value.ownBlock] using e
  have:=(show wr.heap[w.heap.size]?=_ from ta).symm.trans ed;simp at this
def abp(s:e6)(w:World)(hs:s.size<=1000000)(R:et w):ey 95 #[.string s] w (abn s w):=by
 have aw:eA (w.alloc (.cells #[.string s,q 0,.slice none 0 0] 232)) w.heap.size s 0 (.slice none 0 0):=bH w _;have iD:eB w (w.alloc (.cells #[.string s,q 0,.slice none 0 0] 232)):=cT;have k0:=R.js;go_enter func95,ntmps95;go_wp2_with (go_at_call 143;refine(Qi w.heap.size s 0 (.slice none 0 0) _ aw hs bu).mono ?_;rintro e J ⟨rfl,Q9,oX⟩;have np:vX w s J (cR oU s 0) []:=vX.skip (World.ownsRow_nil _ _ _ _) iD (nn.start s) (fun _ h=>by cases h) bu aw Q9 oX);go_loopg [] (s.size+1) (fun n wr=>∃(k:Nat) (ts:e4),vX w s wr k ts/\(∀h:k<s.size,(s[k]==32)=false)/\s.size-k<n);case atStart=>exact⟨_,[],np,fun h=>Q8 s 0 bu h,r⟩
 case round=>
  clear np Q9 oX;obtain⟨k,ts,hm,fE,ar⟩:=hrel;have b7:=hm.len;obtain⟨⟨v,ta,an⟩,A,hi,mf,hk⟩:=hm;obtain⟨bk,c1,c2⟩:=ta.cells;by_cases aD:k<s.size
  ·have cL:(k:Int)<(s.size:Int):=r;have mg:=abk w.heap.size w.heap.size s k v ts wr ta an (R.below A k0) ap r hs aD (fE aD) mf;have bn:=u ar;clear ar;go_wp2_with fail;refine mg.mono ?_;rintro e S (⟨t,jY,ct,rfl,⟨_,v2,Ra,ej⟩,dR,ah⟩ | ⟨ct,rfl,ah⟩)
   ·have xC:=abo aD ct;simp only at xC;have kA:nn s jY (ts++[t]) (Do (ts++[t])):=by rw[abm];exact hi.tok aD ct
    have abq:tl (ts++[t]):=fun x aa=>by
     rcases ax5 aa with h | h
     ·exact mf x h
     ·rw[ic h];exact dR
    have abr:S.ownsRow w.heap.size 237 2 v2 (ts++[t]).length (gn (ts++[t])):=by rw[cu];exact ej
    clear bk c1 c2 ej;go_wp2_with (go_at_call 143;refine(Qi w.heap.size s jY v2 _ Ra hs xC.2).mono ?_;rintro e aA ⟨rfl,oh,abs⟩;have abt:vX w s aA (cR oU s jY) (ts++[t]):=vX.skip abr (A.trans ah) kA abq xC.2 Ra oh abs);have ar:=bn.d;have qn:=pv oU s jY;go_roundg (gk-1);case measure=>omega
    case rel=>exact⟨_,_,abt,fun h=>Q8 s jY xC.2 h,r⟩
   ·go_wp2_with fail;go_ret2;exact Or.inr ⟨hi.bad aD ct,rfl,A.trans ah⟩
  ·have cL:(s.size:Int)<=(k:Int):=r;clear ar;go_wp2_with fail;go_ret2;exact Or.inl ⟨v,ts,hi.done aD,mf,b7,rfl,an,A⟩
def kB(w:World)(b:Nat)(v:Value)(p:Nat)(bad:Bool):Prop:=w.heap[b]?=some (.cells #[v,q (p:Int),.bool bad] 234 (0,0))
def kB.lt(h:kB w b v p bad):b<w.heap.size:=(br h).1
def kB.cells(h:kB w b v p bad):dp w b 0=some v/\dp w b 1=some (q (p:Int))/\dp w b 2=some (.bool bad):=by rw[kB] at h;simp[World.cell?,h]
def kB.free(h:kB w b v p bad)(o:Nat):w.frozen? ⟨b,o,none⟩=false:=by rw[kB] at h;simp[World.frozen?,h]
def kB.Da(h:kB w b v p bad)(U:Nat):kB (w.setCell ⟨b,1,none⟩ (q (U:Int))) b v U bad:=heap_setCell h _
def kB.A5(h:kB w b v p bad)(U:Bool):kB (w.setCell ⟨b,2,none⟩ (.bool U)) b v p U:=heap_setCell h _
def kB.alloc{w:World}{b:Nat}{v:Value}{p:Nat}{bad:Bool}(h:kB w b v p bad)(o:Obj):kB (w.alloc o) b v p bad:=(Below.heap_alloc w o b h.lt).trans h
def Rd(w:World)(b:Nat)(v:Value)(ts:e4)(c:Option (e4)):Prop:=∃p bad,kB w b v p bad/\w.ownsRow 0 237 2 v ts.length (gn ts)/\p<=ts.length/\(bad=true->p=ts.length)/\c=if bad then none else some (ts.drop p)
def Rd.lt{w:World}{b:Nat}{v:Value}{ts:e4}{c:Option (e4)}(h:Rd w b v ts c):b<w.heap.size:=by obtain⟨p,bad,h,_⟩:=h;exact h.lt
def zc(h:w.heap[b]?=some (.cells cs t (0,0)))(an:w.ownsRow base e size v n xs)(zd:t≠e):v.ownBlock=none\/v.ownBlock≠some b:=by
 rcases an.2 with⟨rfl,_⟩ | ⟨g,af,ay,rfl,_,ed,_⟩
 ·exact Or.inl rfl
 ·refine Or.inr fun bo=>?_;obtain rfl:g=b:=by simpa [Value.ownBlock] using bo
  have:=h.symm.trans ed;simp at this;exact zd this.2
def Rb(h:kB w b v p bad)(an:w.ownsRow 0 237 2 v n xs)(R:w.grownBy w' (some b)):w'.ownsRow 0 237 2 v n xs:=an.kept R (zc h an K)
def Rd.alloc{w:World}{b:Nat}{v:Value}{ts:e4}{c:Option (e4)}(h:Rd w b v ts c)(o:Obj):Rd (w.alloc o) b v ts c:=by obtain⟨p,bad,h1,H,ab⟩:=h;exact⟨p,bad,h1.alloc o,H.alloc o,ab⟩
def Rd.below(h:Rd w b v ts c)(A:eB w w'):Rd w' b v ts c:=by obtain⟨p,bad,h1,H,ab⟩:=h;exact⟨p,bad,(A.block b h1.lt).trans h1,ee H A,ab⟩
def Rd.set(h:Rd w b v ts c)(x:Value)(ai:w.heap[bk]?=some (.cells cs t (0,0)))(au:t≠234)(nN:t≠237):Rd (w.setCell ⟨bk,o,none⟩ x) b v ts c:=by obtain⟨p,bad,h1,H,ab⟩:=h;refine⟨p,bad,(Below.heap_setCell _ _ _ b ?_).trans h1,vO H ai nN,ab⟩;rintro rfl;have:=(show w.heap[b]?=_ from h1).symm.trans ai;simp at this;exact au this.2.symm
def Rd.drewN{w:World}{b:Nat}{v:Value}{ts:e4}{c:Option (e4)}(h:Rd w b v ts c)(n:Nat):Rd (w.drewN n) b v ts c:=h
def cM(c:Option (e4)):Nat:=hk (c.getD [])
def jG:Option (e4)->Nat×e6
 | some (t::_)=>(dD t,t)
 | _=>(0,⟨#[]⟩)
def eJ:Option (e4)->Option (e4)
 | some (_::C)=>some C
 | c=>c
def mh(t:Nat×e6):Value:=.agg #[q (t.1:Int),.string t.2]
def abu(ts:e4)(p:Nat)(h:p<ts.length):(gn ts)[p*2]?=some (q (dD ts[p]:Int))/\(gn ts)[p*2+1]?=some (.string ts[p]):=by
 induction ts generalizing p with
 | nil=>exact absurd h (fp _)
 | cons a C aH=>
  have e:gn (a::C)=[q (dD a:Int),.string a]++gn C:=by simp[gn]
  rw[e];cases p with
  | zero=>exact⟨rfl,rfl⟩
  | succ p=>
   have:=aH p (by simpa using h);rw[List.getElem?_append_right (by simp;omega),List.getElem?_append_right (by simp;omega)];have Y:(p+1)*2 - [Value.int IntKind.i64 (dD a:Int),Value.string a].length=p*2:=by simp;omega
   have am:(p+1)*2+1 - [Value.int IntKind.i64 (dD a:Int),Value.string a].length=p*2+1:=by simp;omega
   rw[Y,am];simpa using this
def Bi(h:w.ownsRow 0 237 2 v ts.length (gn ts))(p:Nat)(aj:p<ts.length):∃g af,v=.slice (some ⟨g,0,none⟩) ts.length af/\dp w g (p*2)=some (q (dD ts[p]:Int))/\dp w g (p*2+1)=some (.string ts[p]):=by
 obtain⟨h1,H⟩:=abu ts p aj;rcases h.2 with⟨_,aw⟩ | ⟨g,af,ay,rfl,_⟩
 ·omega
 ·refine⟨g,af,rfl,?_,?_⟩
  ·have:=h.cells rfl _ _ h1;rwa [Addr.add_lit,ax1] at this
  ·have:=h.cells rfl _ _ H;rwa [Addr.add_lit,ax1] at this
def GA(h:w.ownsRow 0 237 2 v n xs):∃a af,v=.slice a n af:=by
 rcases h.2 with⟨rfl,rfl⟩ | ⟨g,af,ay,rfl,_⟩
 ·exact⟨_,_,rfl⟩
 ·exact⟨_,_,rfl⟩
def Bj(h:p<ts.length):ts.drop p=ts[p]::ts.drop (p+1):=List.drop_eq_getElem_cons h
def oi(b:Nat)(v:Value)(ts:e4)(c:Option (e4))(w:World)(h:Rd w b v ts c)(arp:ts.length<=1000):ey 223 #[M b] w fun e w'=>e=.returned (q (cM c:Int))/\∃n,w'=w.drewN n:=by
 obtain⟨p,bad,h1,an,aj,fF,rfl⟩:=h;obtain⟨bk,c1,c2⟩:=h1.cells;obtain⟨a,af,rfl⟩:=GA an;by_cases aD:p<ts.length
 ·have iD:bad=false:=by cases bad with
   | false=>rfl
   | true=>have:=fF rfl;omega
  subst iD;obtain⟨g,cJ,hv,dG,fg⟩:=Bi an p aD;obtain⟨rfl,rfl⟩:a=some ⟨g,0,none⟩/\af=cJ:=by simpa using hv
  have cW:cM (if false=true then none else some (ts.drop p))=dD ts[p]:=by show hk (ts.drop p)=_;rw[Bj aD];rfl
  rw[cW];clear cW;have cy:((p:Int)==(ts.length:Int))=false:=by rw[cV];omega
  have cL:(p:Int)<(ts.length:Int):=r;clear hv an fF;go_enter func223,ntmps223;go_wp2_with fail;go_quiet (fail);go_wp2_with fail;go_quiet (fail);go_wp2_with fail;go_ret;exact⟨rfl,_,by rw[World.drewN_drewN]⟩
 ·have Rc:p=ts.length:=r;have cW:cM (if bad=true then none else some (ts.drop p))=0:=by
   cases bad
   ·show hk (ts.drop p)=0;rw[List.drop_eq_nil_of_le r];rfl
   ·rfl
  rw[cW];clear cW;have cy:((p:Int)==(ts.length:Int))=true:=by rw[beq_iff_eq];omega
  clear an fF;go_enter func223,ntmps223;go_wp2_with fail;go_quiet (fail);go_wp2_with fail;go_ret;exact⟨rfl,_,rfl⟩
def k1(h:w.grownBy W C){c:Nat}(ai:w.heap.size<=c)(o:Nat)(x:Value):w.grownBy (W.setCell ⟨c,o,none⟩ x) C:=⟨h.os,h.tape,h.output,by show _<=(W.heap.modify c _).size;rw[Array.size_modify];exact h.size,fun k hk ar=>(Below.heap_setCell _ _ _ k (by show k≠c;omega)).trans (h.block k hk ar)⟩
def kB.Re(h:kB w b v p bad){c:Nat}(ai:b≠c)(o:Nat)(x:Value):kB (w.setCell ⟨c,o,none⟩ x) b v p bad:=(Below.heap_setCell _ _ _ b ai).trans h
def Rf{c:Nat}{g l af:Nat}(h:w.ownsRow base e size (.slice (some ⟨g,0,none⟩) l af) n xs)(ai:g≠c)(o:Nat)(bp:Value):(w.setCell ⟨c,o,none⟩ bp).ownsRow base e size (.slice (some ⟨g,0,none⟩) l af) n xs:=ownsRow_setCell_other h (by simpa [Value.ownBlock] using ai) bp
def Rd.kept{w w':World}{b:Nat}{v:Value}{ts:e4}{c:Option (e4)}(h:Rd w b v ts c)(R:w.grownBy w' none):Rd w' b v ts c:=by obtain⟨p,bad,h1,H,ab⟩:=h;exact⟨p,bad,(R.block b h1.lt (by simp)).trans h1,H.kept R (by cases v.ownBlock<;>simp),ab⟩
def xD(b:Nat)(v:Value)(ts:e4)(c:Option (e4))(w:World)(h:Rd w b v ts c)(X:ts.length<=1000):ey 225 #[M b] w fun e w'=>e=.returned (mh (jG c))/\Rd w' b v ts (eJ c)/\w.grownBy w' (some b):=by
 obtain⟨p,bad,h1,an,aj,fF,rfl⟩:=h;obtain⟨bk,c1,c2⟩:=h1.cells;have oV:=h1.free 1;have cY:=h1.lt;obtain⟨a,af,rfl⟩:=GA an;by_cases aD:p<ts.length
 ·have iD:bad=false:=by cases bad with
   | false=>rfl
   | true=>have:=fF rfl;omega
  subst iD;obtain⟨g,cJ,hv,dG,fg⟩:=Bi an p aD;obtain⟨rfl,rfl⟩:a=some ⟨g,0,none⟩/\af=cJ:=by simpa using hv
  have Y:jG (if false=true then none else some (ts.drop p))=(dD ts[p],ts[p]):=by show jG (some (ts.drop p))=_;rw[Bj aD];rfl
  have am:eJ (if false=true then none else some (ts.drop p))=some (ts.drop (p+1)):=by show eJ (some (ts.drop p))=_;rw[Bj aD];rfl
  rw[Y,am];clear Y am;have cy:((p:Int)==(ts.length:Int))=false:=by rw[cV];omega
  have cL:(p:Int)<(ts.length:Int):=r;have fr:IntKind.i64.wrap ((p:Int)+1)=(p:Int)+1:=mC;have Dp:IntKind.i64.wrap ((p:Int))=(p:Int):=mC;have arq:g<w.heap.size:=by have:=World.block_lt_of_cell? w _ dG;exact this
  have ed:g≠b:=by
   rcases zc h1 an K with e | e
   ·cases e
   ·intro bo;subst bo;exact e rfl
  go_enter func225,ntmps225;go_wp2_with fail;go_quiet (fail);go_wp2_with fail;have aI:kB (((w.alloc (Obj.cells #[Value.int IntKind.i64 0,Value.string {data:=#[]}] 237)).drewN nq).setCell ⟨b,1,none⟩ (q ((p:Int)+1))) b (.slice (some ⟨g,0,none⟩) ts.length af) (p+1) false:=(show kB ((w.alloc (Obj.cells #[Value.int IntKind.i64 0,Value.string {data:=#[]}] 237)).drewN nq) b (.slice (some ⟨g,0,none⟩) ts.length af) p false from h1.alloc _).Da (p+1);have GB:w.grownBy (((w.alloc (Obj.cells #[Value.int IntKind.i64 0,Value.string {data:=#[]}] 237)).drewN nq).setCell ⟨b,1,none⟩ (q ((p:Int)+1))) (some b):=((World.grownBy_alloc w _ _).trans (q6 _ _ _)).trans (Gh _ _ _ _)
  have fX:(((w.alloc (Obj.cells #[Value.int IntKind.i64 0,Value.string {data:=#[]}] 237)).drewN nq).setCell ⟨b,1,none⟩ (q ((p:Int)+1))).heap[w.heap.size]?=some (.cells #[Value.int IntKind.i64 0,Value.string {data:=#[]}] 237 (0,0)):=(Below.heap_setCell _ _ _ _ (by show w.heap.size≠b;omega)).trans (bH w _);have Rg:=Rb h1 an GB;generalize ((w.alloc (Obj.cells #[Value.int IntKind.i64 0,Value.string {data:=#[]}] 237)).drewN nq).setCell ⟨b,1,none⟩ (q ((p:Int)+1))=W at *;clear bk c1 c2 oV dG fg an fF;obtain⟨bk,c1,c2⟩:=aI.cells;obtain⟨dM,cJ,hv,dG,fg⟩:=Bi Rg p aD;obtain⟨rfl,rfl⟩:g=dM/\af=cJ:=by simpa using hv
  have ji:=Z fX (i:=0) rfl;have bM:=Z fX (i:=1) rfl;have f0:=aQ (i:=0) fX;have f1:=aQ (i:=1) fX;clear hv aj cy;go_region;all_goals
   go_wp2_with fail;refine bodyPost_ret (v:=mh (dD ts[p],ts[p])) (by simp[results,results225,go_sem,mh, *]) rfl ⟨rfl,?_,?_⟩
   ·exact⟨p+1,false,(show kB _ b _ (p+1) false from(aI.Re r _ _).Re r _ _),(show World.ownsRow _ _ _ _ _ _ _ from Rf (Rf Rg r _ _) r _ _),r,(fun e=>Bool.noConfusion e),rfl⟩
   ·exact(k1 (k1 GB ap _ _) ap _ _).trans (Zr _ _)
 ·have Rc:p=ts.length:=r;have Y:jG (if bad=true then none else some (ts.drop p))=(0,⟨#[]⟩):=by
   cases bad
   ·show jG (some (ts.drop p))=_;rw[List.drop_eq_nil_of_le r];rfl
   ·rfl
  have am:eJ (if bad=true then none else some (ts.drop p))=(if bad=true then none else some (ts.drop p)):=by
   cases bad
   ·show eJ (some (ts.drop p))=some _;rw[List.drop_eq_nil_of_le r];rfl
   ·rfl
  rw[Y,am];clear Y am;have cy:((p:Int)==(ts.length:Int))=true:=by rw[beq_iff_eq];omega
  have b1:Rd w b (.slice a ts.length af) ts (if bad=true then none else some (ts.drop p)):=⟨p,bad,h1,an,aj,fF,rfl⟩;generalize (if bad=true then none else some (ts.drop p))=dz at *;clear an fF Rc;go_enter func225,ntmps225;go_wp2_with fail;go_quiet (fail);go_wp2_with fail;refine bodyPost_ret (v:=mh (0,⟨#[]⟩)) (by simp[results,results225,go_sem,mh]) rfl ⟨rfl,?_,?_⟩
  ·exact b1.kept (k1 (k1 ((World.grownBy_alloc w _ _).trans (q6 _ _ _)) ap _ _) ap _ _)
  ·exact k1 (k1 ((World.grownBy_alloc w _ _).trans (q6 _ _ _)) ap _ _) ap _ _
def abv(b:Nat)(v:Value)(ts:e4)(c:Option (e4))(w:World)(h:Rd w b v ts c):ey 224 #[M b] w fun e w'=>e=.returned (.tuple #[])/\Rd w' b v ts none/\w.grownBy w' (some b):=by obtain⟨p,bad,h1,an,aj,fF,rfl⟩:=h;obtain⟨bk,c1,c2⟩:=h1.cells;have oV:=h1.free 1;have tb:=h1.free 2;obtain⟨a,af,rfl⟩:=GA an;go_enter func224,ntmps224;go_wp2_with fail;go_end0;have R:w.grownBy ((w.setCell ⟨b,2,none⟩ (.bool true)).setCell ⟨b,1,none⟩ (q (ts.length:Int))) (some b):=(Gh _ _ _ _).trans (Gh _ _ _ _);exact⟨rfl,⟨ts.length,true,(h1.A5 true).Da ts.length,Rb h1 an R,ap,fun _=>rfl,rfl⟩,R⟩
def oj(ks:List Nat):List Value:=ks.map fun (k:Nat)=>q (k:Int)
def ek(ks:List Nat)(k:Nat):Bool:=ks.contains k
def rf(ks:List Nat)(k j:Nat):Prop:=k∉ks.take j
def rf.next(h:rf ks k j)(aS:j<ks.length)(hk:k≠ks[j]):rf ks k (j+1):=by
 unfold rf at h ⊢;rw[jD aS,List.mem_append];rintro(e | e)
 ·exact h e
 ·exact hk (ic e)
def rf.done(h:rf ks k j)(aS:¬j<ks.length):ek ks k=false:=by unfold rf at h;rw[List.take_of_length_le r] at h;unfold ek;simpa using h
def Kw(aS:j<ks.length)(hk:k=ks[j]):ek ks k=true:=by unfold ek;rw[hk,List.contains_iff_mem];exact ec _
def lQ(w:World)(v:Value)(ks:List Nat):Prop:=w.ownsRow 0 134 1 v ks.length (oj ks)
def lQ.cell(h:lQ w v ks)(i:Nat)(hi:i<ks.length):∃g af,v=.slice (some ⟨g,0,none⟩) ks.length af/\dp w g i=some (q (ks[i]:Int)):=by
 rcases h.2 with⟨_,aw⟩ | ⟨g,af,ay,rfl,_⟩
 ·omega
 ·refine⟨g,af,rfl,?_⟩;have:=World.ownsRow.cells h rfl i (q (ks[i]:Int)) (by rw[oj,List.getElem?_map,fC hi];rfl);rwa [Addr.add_lit,ax1] at this
def lQ.len(h:lQ w v ks):∃a af,v=.slice a ks.length af:=by
 rcases h.2 with⟨rfl,aw⟩ | ⟨g,af,ay,rfl,_⟩
 ·exact⟨none,0,by rw[aw]⟩
 ·exact⟨_,_,rfl⟩
def lQ.made(w:World)(ks:List Nat)(cs:Array Value)(h:cs.toList=oj ks)(X:ks.length<=100):lQ (w.alloc (.cells cs 134)) (.slice (some ⟨w.heap.size,0,none⟩) ks.length ks.length) ks:=by
 have b7:(oj ks).length=ks.length:=by simp[oj]
 refine⟨by rw[b7,Nat.mul_one],Or.inr ⟨w.heap.size,ks.length,cs,rfl,bu,bH w _,ap,by unfold maxLen;omega,?_,?_⟩⟩
 ·rw[<-ax7,h,b7,Nat.mul_one]
 ·rw[h,Nat.mul_one,<-b7,List.take_length]
def abw(v:Value)(ks:List Nat)(k:Nat)(w:World)(h:lQ w v ks)(X:ks.length<=100):ey 276 #[v,q (k:Int)] w fun e w'=>∃gX:Int,e=.returned (q gX)/\decide (0<=gX)=ek ks k/\w=w':=by
 obtain⟨a,af,rfl⟩:=h.len;go_enter func276,ntmps276;go_wp2_with fail;go_loop [8] (fun i=>∃j:Nat,j<=ks.length/\i=q j/\rf ks k j) (fun i=>ks.length-(intOf i).toNat);case atStart=>exact⟨0,bu,rfl,by simp[rf]⟩
 case round=>
  obtain⟨j,aS,rfl,b8⟩:=hrel;by_cases aD:j<ks.length
  ·obtain⟨g,cJ,hv,ai⟩:=h.cell j aD;obtain⟨rfl,rfl⟩:a=some ⟨g,0,none⟩/\af=cJ:=by simpa using hv
   have cL:(j:Int)<(ks.length:Int):=r;by_cases he:k=ks[j]
   ·have rh:((k:Int)==(ks[j]:Int))=true:=by rw[beq_iff_eq];omega
    have aN:Hid (ek ks k=true):=u (Kw aD he);clear b8 hv he;go_wp2_with fail;go_ret;exact⟨j,rfl,by rw[aN.d];exact ax3 r,rfl⟩
   ·have rh:((k:Int)==(ks[j]:Int))=false:=by rw[cV];omega
    have bn:=u (b8.next aD he);have fr:IntKind.i64.wrap ((j:Int)+1)=(j:Int)+1:=mC;clear b8 hv he;go_wp2_with fail;go_round;case rel=>exact⟨j+1,r,by go_num,bn.d⟩
    case measure=>simp[intOf];omega
  ·have cL:(ks.length:Int)<=(j:Int):=r;have aN:Hid (ek ks k=false):=u (b8.done aD);clear b8;go_wp2_with fail;go_ret;exact⟨-1,rfl,by rw[aN.d];rfl,rfl⟩
def Rh(v:Value)(ks:List Nat)(k:Nat)(w:World)(h:lQ w v ks)(X:ks.length<=100):ey 222 #[v,q (k:Int)] w (ov w (.bool (ek ks k))):=by go_enter func222,ntmps222;go_wp2_with (go_at_call 276;refine(abw v ks k _ h X).mono ?_;rintro e w' ⟨gX,rfl,fz,rfl⟩;have kj:=u fz;clear fz);go_ret;exact⟨by rw[<-kj.d];rfl,rfl⟩
def eV(ks:List Nat)(c:Option (e4)):Option (e4):=if ek ks (cM c) then c else none
def tm{o:Obj}(ag:C=some b)(A:b<w.heap.size)(R:(w.alloc o).grownBy S C):S.heap[w.heap.size]?=some o:=by subst ag;have h1:(w.alloc o).heap[w.heap.size]?=some o:=bH w o;exact(R.block w.heap.size (br h1).1 (by simp;omega)).trans h1
def lQ.drewN{w:World}{v:Value}{ks:List Nat}(h:lQ w v ks)(n:Nat):lQ (w.drewN n) v ks:=h
def Rd.own(h:Rd w b v ts c):∀k,v.ownBlock=some k->k<w.heap.size:=by obtain⟨p,bad,h1,H,_⟩:=h;exact fun k hk=>(H.lt k hk).2
def Rd.pD(h:Rd w b v ts c)(cS:∀k,v.ownBlock=some k->k<N)(A:b<N)(ai:N<=bk)(x:Value):Rd (w.setCell ⟨bk,o,none⟩ x) b v ts c:=by obtain⟨p,bad,h1,H,ab⟩:=h;refine⟨p,bad,(Below.heap_setCell _ _ _ b (by show b≠bk;omega)).trans h1,ownsRow_setCell_other H ?_ x,ab⟩;intro e;have aK:bk<N:=cS _ e;omega
def GC(b:Nat)(v:Value)(ts:e4)(c:Option (e4))(hI:Value)(ks:List Nat)(w:World)(h:Rd w b v ts c)(hk:lQ w hI ks)(X:ts.length<=1000)(jl:ks.length<=100):ey 146 #[M b,hI] w fun e w'=>e=.returned (mh (jG (eV ks c)))/\Rd w' b v ts (eJ (eV ks c))/\w.grownBy w' (some b):=by
 have cY:=h.lt;have fs:=h.own;have xE:Rd (w.alloc (.cells #[q 0,.string ⟨#[]⟩] 237)) b v ts c:=h.alloc _;have xF:lQ (w.alloc (.cells #[q 0,.string ⟨#[]⟩] 237)) hI ks:=World.ownsRow.alloc hk _;generalize fz:ek ks (cM c)=gX;have kj:=u fz;cases gX
 ·have eU:eV ks c=none:=by unfold eV;rw[fz];rfl
  rw[eU];clear eU fz;go_enter func146,ntmps146;go_wp2_with (first | (go_at_call 223;refine(oi b v ts c _ xE X).mono ?_;rintro e J ⟨rfl,bM,rfl⟩) | (go_at_call 222;refine(Rh hI ks _ _ (xF.drewN bM) jl).mono ?_;rintro e S ⟨rfl,rfl⟩;rw[kj.d]) | (go_at_call 224;refine(abv b v ts c _ (xE.drewN bM)).mono ?_;rintro e aA ⟨rfl,gY,eC⟩) | (go_at_call 225;refine(xD b v ts none _ gY X).mono ?_;rintro e bI ⟨rfl,ns,gZ⟩;have R:=((q6 _ bM (some b)).trans eC).trans gZ;have hblk:=tm (o:=.cells #[q 0,.string ⟨#[]⟩] 237) rfl cY R;have uV:=Z hblk (i:=0) rfl;have dG:=Z hblk (i:=1) rfl;have y8:=aQ (i:=0) hblk;have oV:=aQ (i:=1) hblk;simp only[mh]));refine bodyPost_ret (v:=mh (jG none)) (by simp[results,results146,go_sem,mh, *]) rfl ⟨rfl,?_,?_⟩
  ·exact(ns.pD fs cY ap _).pD fs cY ap _
  ·exact k1 (k1 ((World.grownBy_alloc w _ _).trans R) ap _ _) ap _ _
 ·have eU:eV ks c=c:=by unfold eV;rw[fz];rfl
  rw[eU];clear eU fz;generalize bi:jG c=T;have dy:=u bi;clear bi;obtain⟨Dq,Dr⟩:=T;go_enter func146,ntmps146;go_wp2_with (first | (go_at_call 223;refine(oi b v ts c _ xE X).mono ?_;rintro e J ⟨rfl,bM,rfl⟩) | (go_at_call 222;refine(Rh hI ks _ _ (xF.drewN bM) jl).mono ?_;rintro e S ⟨rfl,rfl⟩;rw[kj.d]) | (go_at_call 225;refine(xD b v ts c _ (xE.drewN bM) X).mono ?_;rintro e bI ⟨rfl,ns,gZ⟩;have R:=(q6 _ bM (some b)).trans gZ;have hblk:=tm (o:=.cells #[q 0,.string ⟨#[]⟩] 237) rfl cY R;have uV:=Z hblk (i:=0) rfl;have dG:=Z hblk (i:=1) rfl;have y8:=aQ (i:=0) hblk;have oV:=aQ (i:=1) hblk;rw[dy.d];simp only[mh]));refine bodyPost_ret (v:=mh (Dq,Dr)) (by simp[results,results146,go_sem,mh, *]) rfl ⟨rfl,?_,?_⟩
  ·exact(ns.pD fs cY ap _).pD fs cY ap _
  ·exact k1 (k1 ((World.grownBy_alloc w _ _).trans R) ap _ _) ap _ _
def gL(k:Nat)(c:Option (e4)):Option (e4):=if cM c=k then eJ c else c
def pE(b:Nat)(v:Value)(ts:e4)(c:Option (e4))(k:Nat)(w:World)(h:Rd w b v ts c)(X:ts.length<=1000):ey 219 #[M b,q (k:Int)] w fun e w'=>e=.returned (.bool (decide (cM c=k)))/\Rd w' b v ts (gL k c)/\w.grownBy w' (some b):=by
 by_cases hk:cM c=k
 ·have Y:gL k c=eJ c:=by unfold gL;rw[if_pos hk]
  rw[Y,ax3 hk];have pF:((cM c:Int) != (k:Int))=false:=by rw[bne_eq_false_iff_eq];omega
  clear Y hk;go_enter func219,ntmps219;go_wp2_with (first | (go_at_call 223;refine(oi b v ts c _ h X).mono ?_;rintro e J ⟨rfl,bM,rfl⟩) | (go_at_call 225;refine(xD b v ts c _ (h.drewN bM) X).mono ?_;rintro e bI ⟨rfl,ns,gZ⟩;simp only[mh]));go_ret;exact⟨rfl,ns,(q6 _ _ _).trans gZ⟩
 ·have Y:gL k c=c:=by unfold gL;rw[if_neg hk]
  rw[Y,ax2 hk];have pF:((cM c:Int) != (k:Int))=true:=by rw[bne_iff_ne];omega
  clear Y hk;go_enter func219,ntmps219;go_wp2_with (go_at_call 223;refine(oi b v ts c _ h X).mono ?_;rintro e J ⟨rfl,bM,rfl⟩);go_ret;exact⟨rfl,h.drewN bM,q6 _ _ _⟩
def ze(k:Nat)(c:Option (e4)):Option (e6×e4):=c.bind (dq k)
def mH(k:Nat)(c:Option (e4)):Nat×e6:=match ze k c with
 | some x=>(k,x.1)
 | none=>(0,⟨#[]⟩)
def c8(k:Nat)(c:Option (e4)):Option (e4):=(ze k c).map (·.2)
def Ri(k j:Nat):ek [k] j=decide (j=k):=by
 unfold ek;by_cases h:j=k
 ·subst h;simp
 ·simp[h]
def Rj(k:Nat)(hk:k≠0)(c:Option (e4)):jG (eV [k] c)=mH k c/\eJ (eV [k] c)=c8 k c:=by
 unfold eV mH c8 ze;rw[Ri];match c with
 | none=>have e:cM none=0:=rfl;rw[e,ax2 r];exact⟨rfl,rfl⟩
 | some []=>have e:cM (some [])=0:=rfl;rw[e,ax2 r];exact⟨rfl,rfl⟩
 | some (t::C)=>
  have e:cM (some (t::C))=dD t:=rfl;rw[e,b2,dq];by_cases h:dD t=k
  ·rw[ax3 h,if_pos h];exact⟨by show(dD t,t)=(k,t);rw[h],rfl⟩
  ·rw[ax2 h,if_neg h];exact⟨rfl,rfl⟩
def abx(k:Nat)(Bk:Int)(Kx:Bk=(k:Int))(hk:k≠0)(b:Nat)(v:Value)(ts:e4)(c:Option (e4))(W:World)(N:Nat)(cS:W.heap.size=N)(h:Rd W b v ts c)(X:ts.length<=1000):ey 146 #[M b,.slice (some ⟨N,0,none⟩) 1 1] (W.alloc (.cells #[q Bk] 134)) fun e w'=>e=.returned (mh (mH k c))/\Rd w' b v ts (c8 k c)/\W.grownBy w' (some b):=by subst Kx cS;obtain⟨Y,am⟩:=Rj k hk c;refine(GC b v ts c _ [k] _ (h.alloc _) (lQ.made W [k] #[q (k:Int)] rfl (by show 1<=100;omega)) X (by show 1<=100;omega)).mono ?_;rintro e w' ⟨h1,H,ab⟩;rw[Y] at h1;rw[am] at H;exact⟨h1,H,(World.grownBy_alloc W _ _).trans ab⟩
def dU(w:World)(b:Nat)(v:Value)(ts:e4)(o:Option (e4×aL))(e:Ending)(w':World):Prop:=∃x:Nat,e=.returned (M x)/\Rd w' b v ts (o.map (·.1))/\w.grownBy w' (some b)/\∀C t,o=some (C,t)->df w' w.heap.size w'.heap.size t [M x]
def aby(c:Option (e4)):c8 1 (c8 7 (c8 1 c))=(c.bind hp).map (·.1)/\∀C t,c.bind hp=some (C,t)->t=.node 1 (mH 1 c).2 (mH 1 (c8 7 (c8 1 c))).2 al.zero .nil .nil:=by
 unfold c8 mH ze;cases c with
 | none=>exact⟨rfl,fun C t h=>by cases h⟩
 | some ts=>
  simp only[b2];unfold hp;cases dq 1 ts with
  | none=>exact⟨rfl,fun C t h=>by cases h⟩
  | some a=>
   simp only[eQ,b2];cases dq 7 a.2 with
   | none=>exact⟨rfl,fun C t h=>by cases h⟩
   | some aq=>
    simp only[eQ,b2];cases dq 1 aq.2 with
    | none=>exact⟨rfl,fun C t h=>by cases h⟩
    | some x=>refine⟨rfl,fun C t h=>?_⟩;simp only[b2,Option.some.injEq,Prod.mk.injEq] at h;exact h.2.symm
def nO{c:Nat}{o:Obj}(h:w.heap[c]?=some o)(Bl:Obj):(w.alloc Bl).heap[c]?=some o:=(Below.heap_alloc w Bl c (br h).1).trans h
def GD{src name:e6}{val:al}(X:lo<=b)(h:w.heap[b]?=some (.cells #[q (k:Int),.string src,.string name,q (val.kind:Int),q val.num,.string (a7 val.du),.slice none 0 0,.pointer none,q 0,q 0,q 0] 247 (0,0))):df w lo w.heap.size (.node k src name val .nil .nil) [M b]:=.node (l1:=w.heap.size) (m:=w.heap.size) (h1:=w.heap.size) (vs:=[]) (qs:=[]) (p0:=0) (p1:=0) (p2:=0) X (br h).1 (bX X (Nat.le_of_lt (br h).1)) ap (.inl (br h).1) h (World.ownsRow_nil _ _ _ _) (.nil ap) (.nil ap)
def ll(k:Nat)(Bk:Int)(Kx:Bk=(k:Int))(hk:k≠0)(b:Nat)(v:Value)(ts:e4)(c e7:Option (e4))(T:Nat×e6)(bi:mH k c=T)(ai:c8 k c=e7)(W:World)(N:Nat)(cS:W.heap.size=N)(h:Rd W b v ts c)(X:ts.length<=1000):ey 146 #[M b,.slice (some ⟨N,0,none⟩) 1 1] (W.alloc (.cells #[q Bk] 134)) fun e w'=>e=.returned (.agg #[q (T.1:Int),.string T.2])/\Rd w' b v ts e7/\W.grownBy w' (some b):=by subst bi ai;exact abx k Bk Kx hk b v ts c W N cS h X
def vY(W:World)(N:Nat)(cS:W.heap.size=N)(o:Obj):(W.alloc o).heap[N]?=some o:=by subst cS;exact bH W o
def nP{c:Nat}{o:Obj}(h:w.heap[c]?=some o)(R:w.grownBy w' (some b))(cy:c≠b):w'.heap[c]?=some o:=(R.block c (br h).1 (by simpa using cy)).trans h
def Rk(b:Nat)(v:Value)(ts:e4)(c:Option (e4))(w:World)(h:Rd w b v ts c)(X:ts.length<=1000):ey 275 #[M b] w (dU w b v ts (c.bind hp)):=by
 obtain⟨Y,am⟩:=aby c;unfold dU;generalize Ds:mH 1 c=Dq at am;generalize dG:c8 1 c=c1 at Y am;generalize fg:c8 7 c1=c2 at Y am;generalize Bm:mH 1 c2=abz at am;generalize nt:c8 1 c2=dZ at Y;rw[<-Y];have hX:=u am;clear Y am;obtain⟨Bn,xG⟩:=Dq;obtain⟨abA,abB⟩:=abz;have cY:=h.lt;go_enter func275,ntmps275;go_wp2_with fail;refine(ll 1 1 rfl K b v ts c c1 _ Ds dG w _ (by simp) h X).mono ?_;rintro e J ⟨rfl,ft,dv⟩;have sk:=ft.alloc (.cells #[q (Bn:Int),.string xG] 237);have dV:=dv.size;go_wp2_with fail;refine(ll 7 7 rfl K b v ts c1 c2 _ rfl fg _ _ (by simp) sk X).mono ?_;rintro e S ⟨rfl,dW,bC⟩;have Ky:S.heap[J.heap.size]?=some (.cells #[q (Bn:Int),.string xG] 237 (0,0)):=tm rfl ft.lt bC;go_wp2_with fail
 refine(ll 1 1 rfl K b v ts c2 dZ _ Bm nt S _ (by simp) dW X).mono ?_;rintro e aA ⟨rfl,gY,eC⟩;have xH:=nP Ky eC r;have d1:=Z (nO xH (.cells #[q (abA:Int),.string abB] 237)) (i:=1) rfl;have dh:w.grownBy aA (some b):=(dv.trans ((World.grownBy_alloc J _ _).trans bC)).trans eC;have iu:=dh.size;clear Ds dG fg Bm nt;go_wp2_with fail;go_ret;refine⟨_,rfl,(gY.alloc _).alloc _,(dh.trans (World.grownBy_alloc aA _ _)).trans (World.grownBy_alloc _ _ _),fun C t au=>?_⟩;rw[hX.d C t au];exact GD (k:=1) (val:=al.zero) r (vY _ _ (by simp) _)
def gz(ts:e4):Prop:=ts.length<=1000/\∀t∈ts,t.size<=1000
def GE(ks:List Nat)(cs:Array Value)(n:Nat)(ar:ks.length=n)(j2:cs.toList=oj ks)(jl:ks.length<=100)(b:Nat)(v:Value)(ts:e4)(c e7:Option (e4))(T:Nat×e6)(bi:jG (eV ks c)=T)(ai:eJ (eV ks c)=e7)(W:World)(N:Nat)(cS:W.heap.size=N)(h:Rd W b v ts c)(X:ts.length<=1000):ey 146 #[M b,.slice (some ⟨N,0,none⟩) n n] (W.alloc (.cells cs 134)) fun e w'=>e=.returned (.agg #[q (T.1:Int),.string T.2])/\Rd w' b v ts e7/\W.grownBy w' (some b):=by subst ar cS bi ai;refine(GC b v ts c _ ks _ (h.alloc _) (lQ.made W ks cs j2 jl) X jl).mono ?_;rintro e w' ⟨h1,H,ab⟩;exact⟨h1,H,(World.grownBy_alloc W _ _).trans ab⟩
def Rl(h:Rd w b v ts c)(hs:gz ts)(ks:List Nat):(jG (eV ks c)).2.size<=1000:=by
 have key:∀e7,(e7=c\/e7=none)->(jG e7).2.size<=1000:=by
  rintro e7 (rfl | rfl)
  ·obtain⟨p,bad,_,_,_,_,rfl⟩:=h;cases bad
   ·show(jG (some (ts.drop p))).2.size<=1000;cases bb:ts.drop p with
    | nil=>exact bu
    | cons t C=>exact hs.2 t (List.mem_of_mem_drop (i:=p) (by rw[bb];exact ax6))
   ·exact bu
  ·exact bu
 refine key _ ?_;unfold eV;split
 ·exact Or.inl rfl
 ·exact Or.inr rfl
def Rm(a:Int)(t:e6)(w:World):Sem.run prog (Instr.field 237 (Value.agg #[q a,.string t]) 1) w=.ok (.string t) w:=ax
def Kz(a:Int)(t:e6)(w:World):Sem.run prog (Instr.field 237 (Value.agg #[q a,.string t]) 0) w=.ok (q a) w:=ax
def Dt(ts:e4):Option (e4×aL):=if hk ts=2\/hk ts=3\/hk ts=24 then some (ts.tail,.node 2 ⟨#[]⟩ ⟨#[]⟩ (fy (ts.headD ⟨#[]⟩).data.toList).1 .nil .nil) else none
def abC(c:Option (e4)):eJ (eV [2,3,24] c)=(c.bind Dt).map (·.1)/\∀C t,c.bind Dt=some (C,t)->t=.node 2 ⟨#[]⟩ ⟨#[]⟩ (fy (jG (eV [2,3,24] c)).2.data.toList).1 .nil .nil:=by
 have xI:∀k,ek [2,3,24] k=decide (k=2\/k=3\/k=24):=by
  intro k;unfold ek;by_cases H:k=2
  ·subst H;rfl
  ·by_cases ab:k=3
   ·subst ab;rfl
   ·by_cases aK:k=24
    ·subst aK;rfl
    ·simp[H,ab,aK]
 unfold eV;rw[xI];match c with
 | none=>exact⟨rfl,fun C t h=>by cases h⟩
 | some []=>exact⟨rfl,fun C t h=>by cases h⟩
 | some (a::l)=>
  have e:cM (some (a::l))=hk (a::l):=rfl;rw[e,b2];unfold Dt;by_cases h:hk (a::l)=2\/hk (a::l)=3\/hk (a::l)=24
  ·rw[if_pos h,ax3 h];refine⟨rfl,fun C t au=>?_⟩;simp only[Option.some.injEq,Prod.mk.injEq] at au;exact au.2.symm
  ·rw[if_neg h,ax2 h];exact⟨rfl,fun C t au=>by cases au⟩
def Rn(b:Nat)(v:Value)(ts:e4)(c:Option (e4))(w:World)(h:Rd w b v ts c)(hs:gz ts):ey 289 #[M b] w (dU w b v ts (c.bind Dt)):=by
 obtain⟨Y,am⟩:=abC c;have mi:=Rl h hs [2,3,24];unfold dU;generalize bi:jG (eV [2,3,24] c)=T at am mi;generalize dG:eJ (eV [2,3,24] c)=c1 at Y;rw[<-Y];obtain⟨jt,bG⟩:=T;simp only at am mi;generalize b1:fy bG.data.toList=cm at am;obtain⟨lO,rb⟩:=cm;have hX:=u am;have cK:=u b1;clear Y am b1;have cY:=h.lt;go_enter func289,ntmps289;go_wp2_with fail;refine(GE [2,3,24] _ 3 rfl rfl K b v ts c c1 _ bi dG w _ (by simp) h hs.1).mono ?_;rintro e J ⟨rfl,ft,dv⟩;have dV:=dv.size;clear bi dG;have GF:=Rm jt bG J;go_wp2_with (go_at_call 94;refine(Gz bG _ r).mono ?_;rintro e S ⟨rfl,ah⟩;rw[cK.d];simp only[cb]);have bC:J.grownBy S (some b):=⟨ah.os,ah.tape,ah.output,ah.size,fun k hk _=>ah.block k hk⟩;have dW:=ft.below ah;have ep:=ah.size
 go_ret;refine⟨_,rfl,(dW.alloc _).alloc _,(((dv.trans bC).trans (World.grownBy_alloc S _ _)).trans (World.grownBy_alloc _ _ _)),fun C t au=>?_⟩;rw[hX.d C t au];exact GD (k:=2) (val:=lO) r (vY _ _ (by simp) _)
def kl(F:Nat)(b:Nat)(v:Value)(ts:e4)(P:e4->Option (e4×aL))(c:Option (e4)):Prop:=∀w:World,Rd w b v ts c->et w->ey F #[M b] w (dU w b v ts (c.bind P))
def ri(P:e4->Option (e4×aL))(ks:List Nat)(ts:e4):Option (e4×aL):=(dq 4 ts).bind fun a=>(P a.2).bind fun x=>if ek ks (hk x.1) then (P x.1.tail).bind fun y=>(dq 5 y.1).bind fun z=>some (z.2,iQ (md.getD (hk x.1) 0) (.cons x.2 (.cons y.2 .nil))) else none
def Bo(ks:List Nat)(aw:ek ks 0=false)(c:Option (e4)):eJ (eV ks c)=c.bind (fun ts=>if ek ks (hk ts) then some ts.tail else none)/\(∀C,eJ (eV ks c)=some C->(jG (eV ks c)).1=cM c/\ek ks (cM c)=true)/\((jG (eV ks c)).1=0\/(jG (eV ks c)).1=cM c/\ek ks (cM c)=true):=by
 unfold eV;match c with
 | none=>rw[show cM none=0 from rfl,aw];exact⟨rfl,(fun C h=>by cases h),Or.inl rfl⟩
 | some []=>rw[show cM (some [])=0 from rfl,aw];exact⟨by show none=if ek ks 0 then _ else none;rw[aw];rfl,(fun C h=>by cases h),Or.inl rfl⟩
 | some (t::l)=>
  have e:cM (some (t::l))=hk (t::l):=rfl;rw[e,b2];cases hi:ek ks (hk (t::l))
  ·exact⟨rfl,(fun C h=>by cases h),Or.inl rfl⟩
  ·exact⟨rfl,fun C h=>⟨rfl,rfl⟩,Or.inr ⟨rfl,rfl⟩⟩
def lQ.grown(h:lQ w v ks)(A:w.heap[b]?=some (.cells cs 234 (0,0)))(R:w.grownBy w' (some b)):lQ w' v ks:=World.ownsRow.kept h R (zc A h K)
def Rd.block(h:Rd w b v ts c):∃cs,w.heap[b]?=some (.cells cs 234 (0,0)):=by obtain⟨p,bad,h1,_⟩:=h;exact⟨_,h1⟩
def GG(W:World)(lo N:Nat)(cS:W.heap.size=N)(eI:lo<=N)(vs:List Value)(hv:vs.length<=100):(W.alloc (.cells vs.toArray 101)).ownsRow lo 101 1 (.slice (some ⟨N,0,none⟩) vs.length vs.length) vs.length vs:=by
 subst cS;refine⟨by rw[Nat.mul_one],Or.inr ⟨W.heap.size,vs.length,vs.toArray,rfl,eI,bH W _,ap,by unfold maxLen;omega,?_,?_⟩⟩
 ·rw[List.size_toArray,Nat.mul_one]
 ·rw[Nat.mul_one];simp
def Du(cS:W.heap.size=N)(eI:lo<=N){parts:aL}{vs:List Value}(hv:vs.length<=100)(h:df W lo N parts vs):df ((W.alloc (.cells vs.toArray 101)).alloc (.cells #[q (k:Int),.string ⟨#[]⟩,.string ⟨#[]⟩,q 0,q 0,.string ⟨#[]⟩,.slice (some ⟨N,0,none⟩) vs.length vs.length,.pointer none,q 0,q 0,q 0] 247)) lo (N+2) (iQ k parts) [.pointer (some ⟨N+1,0,none⟩)]:=by have aj:=GG W lo N cS eI vs hv;refine .node (l1:=lo) (m:=N) (h1:=N) (vs:=vs) (qs:=[]) (p0:=0) (p1:=0) (p2:=0) r r ap r (.inr r) (vY _ _ (by simp[cS]) _) (aj.alloc _) ?_ (.nil ap);exact(h.kept (uT _ _ _)).kept (uT _ _ _)
def KA(tn:∀k∈ks,k<30)(aw:ek ks 0=false):(jG (eV ks c)).1<30:=by
 rcases(Bo ks aw c).2.2 with h | ⟨h,hi⟩
 ·rw[h];decide
 ·rw[h];exact tn _ (by unfold ek at hi;simpa using hi)
def zf(ks:List Nat):eV ks none=none:=by unfold eV;split<;>rfl
def Ro(P:e4->Option (e4×aL))(ks:List Nat)(aw:ek ks 0=false)(c:Option (e4)):c8 5 (((eJ (eV ks (((c8 4 c).bind P).map (·.1)))).bind P).map (·.1))=(c.bind (ri P ks)).map (·.1)/\∀C t,c.bind (ri P ks)=some (C,t)->∃x y,(c8 4 c).bind P=some x/\(eJ (eV ks (((c8 4 c).bind P).map (·.1)))).bind P=some y/\t=iQ (md.getD (jG (eV ks (((c8 4 c).bind P).map (·.1)))).1 0) (.cons x.2 (.cons y.2 .nil)):=by
 cases c with
 | none=>exact⟨by show c8 5 (((eJ (eV ks none)).bind P).map _)=none;rw[zf];rfl,fun C t h=>by cases h⟩
 | some l=>
  have hq:c8 4 (some l)=(dq 4 l).map (·.2):=rfl;rw[hq,b2];unfold ri;cases dq 4 l with
  | none=>exact⟨by show c8 5 (((eJ (eV ks none)).bind P).map _)=none;rw[zf];rfl,fun C t h=>by cases h⟩
  | some a=>
   simp only[eQ,b2];cases P a.2 with
   | none=>exact⟨by show c8 5 (((eJ (eV ks none)).bind P).map _)=none;rw[zf];rfl,fun C t h=>by cases h⟩
   | some x=>
    simp only[eQ,b2];obtain⟨t1,t2,_⟩:=Bo ks aw (some x.1);rw[t1] at t2;rw[t1];simp only[b2] at t2 ⊢;cases hi:ek ks (hk x.1)
    ·exact⟨rfl,fun C t h=>by cases h⟩
    ·rw[hi] at t2;obtain⟨t3,_⟩:=t2 x.1.tail rfl;rw[t3];simp only[if_true,b2];cases P x.1.tail with
     | none=>exact⟨rfl,fun C t h=>by cases h⟩
     | some y=>
      simp only[eQ,b2];have ol:c8 5 (some y.1)=(dq 5 y.1).map (·.2):=rfl;rw[ol];cases dq 5 y.1 with
      | none=>exact⟨rfl,fun C t h=>by cases h⟩
      | some z=>refine⟨rfl,fun C t h=>⟨x,y,rfl,rfl,?_⟩⟩;simp only[b2,Option.some.injEq,Prod.mk.injEq] at h;exact h.2.symm
def ajU(fn:Nat)(JD:fn=271\/fn=274)(P:e4->Option (e4×aL))(ks:List Nat)(hI:Value)(b:Nat)(v:Value)(ts:e4)(c:Option (e4))(w:World)(h:Rd w b v ts c)(e1:lQ w hI ks)(R:et w)(hs:gz ts)(b5:8<=b)(jl:ks.length<=100)(tn:∀k∈ks,k<30)(aw:ek ks 0=false)(pG:kl fn b v ts P (c8 4 c))(go:kl fn b v ts P (eJ (eV ks (((c8 4 c).bind P).map (·.1))))):ey 287 #[M b,.func (.func fn) #[M b] #[],hI] w (dU w b v ts (c.bind (ri P ks))):=by
 rcases JD with rfl | rfl
 all_goals
  obtain⟨Y,am⟩:=Ro P ks aw c;have lR:=KA tn (c:=((c8 4 c).bind P).map (·.1)) aw;unfold dU;generalize dG:c8 4 c=c1 at Y am pG go lR;generalize tp:c1.bind P=jH at Y am go lR;generalize bi:jG (eV ks (jH.map (·.1)))=T at am lR;generalize nt:eJ (eV ks (jH.map (·.1)))=dZ at Y am go;generalize tq:dZ.bind P=k2 at Y am;generalize qu:c8 5 (k2.map (·.1))=fO at Y;rw[<-Y];have hX:=u am;clear Y am;obtain⟨jt,bG⟩:=T;simp only at lR;have cY:=h.lt;go_enter func287,ntmps287;go_wp2_with fail;refine(ll 4 4 rfl K b v ts c c1 _ rfl dG w _ (by simp) h hs.1).mono ?_;rintro e J ⟨rfl,ft,dv⟩;have dV:=dv.size;have cP:=R.grown dv b5;obtain⟨cs,j2⟩:=h.block;have qv:=e1.grown j2 dv;go_wp2_with fail;refine(pG J ft cP).mono ?_;rw[tp];rintro e S ⟨bz,rfl,dW,bC,hV⟩
  have ep:=bC.size;have gM:=cP.grown bC b5;obtain⟨abE,KB⟩:=ft.block;have gQ:=qv.grown KB bC;go_wp2_with fail;refine(GC b v ts _ hI ks S dW gQ hs.1 jl).mono ?_;rw[bi,nt];rintro e aA ⟨rfl,gY,eC⟩;have iu:=eC.size;have sl:=(gM.grown eC b5);simp only[mh];have zg:=gY.alloc (.cells #[q (jt:Int),.string bG] 237);have xJ:et (aA.alloc (.cells #[q (jt:Int),.string bG] 237)):=sl.below ((Below.refl aA.heap.size _).alloc ap _) sl.js;go_wp2_with fail;refine(go _ zg xJ).mono ?_;rw[tq];rintro e bI ⟨cz,rfl,ns,gZ,sn⟩;have rj:=gZ.size;have Dv:bI.heap[aA.heap.size]?=some (.cells #[q (jt:Int),.string bG] 237 (0,0)):=tm rfl gY.lt gZ;have Dw:=xJ.grown gZ b5;go_wp2_with fail;refine(ll 5 5 rfl K b v ts _ fO _ rfl qu bI _ (by simp) ns hs.1).mono ?_;rintro e bh ⟨rfl,oY,fh⟩
  have vZ:=fh.size;have KC:=nP Dv fh r;have GH:=Dw.grown fh b5;have d0:=Z KC (i:=0) rfl;have nQ:=GH.kinds jt lR;have tr:=hX.d;clear hX;generalize md.getD jt 0=iC at nQ tr;have hX:=u tr;clear tr;have dh:w.grownBy bh (some b):=(((dv.trans bC).trans eC).trans ((World.grownBy_alloc aA _ _).trans gZ)).trans fh;have Rp:(jt:Int)<30:=r;have Rq:(0:Int)<=(jt:Int):=r;clear dG tp bi nt tq qu;go_wp2_with fail;go_ret;refine⟨_,rfl,(oY.alloc _).alloc _,(dh.trans (World.grownBy_alloc bh _ _)).trans (World.grownBy_alloc _ _ _),fun C t au=>?_⟩;obtain⟨x,y,aa,hy,rfl⟩:=hX.d C t au;have abF:aA.heap.size<=(aA.alloc (.cells #[q (jt:Int),.string bG] 237)).heap.size:=by simp
  have pH:df bh w.heap.size S.heap.size x.2 [M bz]:=(((((hV x.1 x.2 aa).kept (gW eC r)).kept (uT _ _ _)).kept (gW gZ r)).kept (gW fh r)).low dV;have Dx:df bh S.heap.size bh.heap.size y.2 [M cz]:=((sn y.1 y.2 hy).kept (gW fh r)).wide r vZ;exact(Du (vs:=[M bz,M cz]) rfl r (by show 2<=100;omega) (.cons pH (.cons Dx (.nil ap)))).high (by simp)
def tt(P:e4->Option (e4×aL))(ts:e4):Option (e4×aL):=(dq 4 ts.tail).bind fun a=>if hk ts=26/\hk a.2=13 then (dq 5 a.2.tail).bind fun z=>some (z.2,iQ 7 .nil) else (P a.2).bind fun x=>(dq 5 x.1).bind fun z=>some (z.2,iQ (md.getD (hk ts) 0) (.cons x.2 .nil))
def kC(h:hk l=k)(iS:k≠0):∃t C,l=t::C/\dD t=k:=by
 cases l with
 | nil=>exact absurd h (by rw[show hk []=0 from rfl];omega)
 | cons t C=>exact⟨t,C,rfl,h⟩
def oZ(k:Nat)(l:e4):c8 k (some l)=(dq k l).map (·.2):=rfl
def abH{c2:e4}(Dy:hk l=26)(H:c8 4 (some l.tail)=some c2)(qr:hk c2=13):c8 5 (some c2.tail)=(tt P l).map (·.1)/\∀C t,tt P l=some (C,t)->t=iQ 7 .nil:=by
 rw[oZ] at H;obtain⟨a,ak,rfl⟩:=Option.map_eq_some_iff.1 H;unfold tt;rw[ak,b2,if_pos ⟨Dy,qr⟩,oZ];cases dq 5 a.2.tail with
 | none=>exact⟨rfl,fun C t h=>by cases h⟩
 | some z=>refine⟨rfl,fun C t h=>?_⟩;simp only[b2,Option.some.injEq,Prod.mk.injEq] at h;exact h.2.symm
def Rr(b8:∀c2,c8 4 (some l.tail)=some c2->¬(hk l=26/\hk c2=13)):c8 5 (((c8 4 (some l.tail)).bind P).map (·.1))=(tt P l).map (·.1)/\∀C t,tt P l=some (C,t)->∃x,(c8 4 (some l.tail)).bind P=some x/\t=iQ (md.getD (hk l) 0) (.cons x.2 .nil):=by
 unfold tt;rw[oZ] at b8 ⊢;cases ak:dq 4 l.tail with
 | none=>exact⟨rfl,fun C t h=>by cases h⟩
 | some a=>
  rw[ak] at b8;simp only[eQ,b2];rw[if_neg (b8 a.2 rfl)];cases P a.2 with
  | none=>exact⟨rfl,fun C t h=>by cases h⟩
  | some x=>
   simp only[eQ,b2];rw[oZ];cases dq 5 x.1 with
   | none=>exact⟨rfl,fun C t h=>by cases h⟩
   | some z=>refine⟨rfl,fun C t h=>⟨x,rfl,?_⟩⟩;simp only[b2,Option.some.injEq,Prod.mk.injEq] at h;exact h.2.symm
def KD:∀k,26<=k->k<=29->md.getD k 0=k-18:=by intro k h1 H;have:k=26\/k=27\/k=28\/k=29:=r;rcases this with rfl | rfl | rfl | rfl<;>rfl
def Rd.setNode(h:Rd w b v ts c)(cS:w.heap[N]?=some (.cells cs 247 (0,0)))(x:Value):Rd (w.setCell ⟨N,o,none⟩ x) b v ts c:=h.set x cS K K
def KE(h:w.grownBy W C){c:Nat}(ai:w.heap.size<=c)(o:Nat)(x:Value):w.grownBy (W.setCell ⟨c,o,none⟩ x) C:=k1 h ai o x
def abI(P:e4->Option (e4×aL))(b:Nat)(v:Value)(ts:e4)(l:e4)(w:World)(h:Rd w b v ts (some l))(R:et w)(hs:gz ts)(b5:8<=b)(bZ:26<=hk l)(dR:hk l<=29)(cy:hk l≠26)(aj:kl 271 b v ts P (c8 4 (some l.tail))):ey 288 #[M b] w (dU w b v ts (tt P l)):=by
 obtain⟨Y,am⟩:=Rr (P:=P) (l:=l) (fun c2 _ e=>cy e.1);generalize fg:c8 4 (some l.tail)=c2 at Y am aj;generalize Dz:c2.bind P=rk at Y am;generalize qu:c8 5 (rk.map (·.1))=fO at Y;obtain⟨t0,c3,rfl,DA⟩:=kC (l:=l) rfl r;have bi:jG (some (t0::c3))=(hk (t0::c3),t0):=rfl;have dG:eJ (some (t0::c3))=some c3:=rfl;simp only[List.tail_cons] at fg;unfold dU;rw[<-Y];have lP:=KD (hk (t0::c3)) bZ dR;generalize xF:hk (t0::c3)=j3 at *;generalize so:md.getD j3 0=iC at *;have hX:=u am;have jF:=u lP;clear Y am DA lP;have cY:=h.lt;have lR:j3<30:=r;have Rs:(j3:Int)<30:=r;have Rt:(0:Int)<=(j3:Int):=r;go_enter func288,ntmps288;go_wp2_with fail;refine(xD b v ts _ w h hs.1).mono ?_;rw[bi,dG];rintro e J ⟨rfl,ft,dv⟩
 have dV:=dv.size;have cP:=R.grown dv b5;have nQ:=cP.kinds j3 lR;have GF:=Kz j3 t0 J;simp only[mh];have Ru:dp J 5 j3=some (q (iC:Int)):=by rw[nQ,so]
 clear nQ bi dG so;have sk:=ft.alloc (.cells #[q (iC:Int),.string ⟨#[]⟩,.string ⟨#[]⟩,q 0,q 0,.string ⟨#[]⟩,.slice none 0 0,.pointer none,q 0,q 0,q 0] 247);go_wp2_with fail;refine(ll 4 4 rfl K b v ts (some c3) c2 _ rfl fg _ _ (by simp) sk hs.1).mono ?_;rintro e S ⟨rfl,dW,bC⟩;have ep:J.heap.size+1<=S.heap.size:=by have:=bC.size;simpa using this
 have o0:S.heap[J.heap.size]?=some (.cells #[q (iC:Int),.string ⟨#[]⟩,.string ⟨#[]⟩,q 0,q 0,.string ⟨#[]⟩,.slice none 0 0,.pointer none,q 0,q 0,q 0] 247 (0,0)):=tm rfl ft.lt bC;have DB:et (J.alloc (.cells #[q (iC:Int),.string ⟨#[]⟩,.string ⟨#[]⟩,q 0,q 0,.string ⟨#[]⟩,.slice none 0 0,.pointer none,q 0,q 0,q 0] 247)):=cP.below ((Below.refl J.heap.size _).alloc ap _) cP.js;have gM:=DB.grown bC b5;have ji:=Z o0 (i:=0) rfl;have pF:((iC:Int)==8)=false:=by rw[cV];have:=jF.d;omega
 go_wp2_with fail;refine(aj S dW gM).mono ?_;rw[Dz];rintro e bI ⟨bz,rfl,ns,gZ,sn⟩;have rj:=gZ.size;have zh:=nP o0 gZ r;have f6:=aQ (i:=6) (nO zh (.cells #[M bz] 101));have n6:=Z (nO zh (.cells #[M bz] 101)) (i:=6) rfl;have zi:=nO zh (.cells #[M bz] 101);have KF:Rd ((bI.alloc (.cells #[M bz] 101)).setCell ⟨J.heap.size,6,none⟩ (.slice (some ⟨bI.heap.size,0,none⟩) 1 1)) b v ts (rk.map (·.1)):=(ns.alloc _).setNode zi _;have KG:((bI.alloc (.cells #[M bz] 101)).setCell ⟨J.heap.size,6,none⟩ (.slice (some ⟨bI.heap.size,0,none⟩) 1 1)).heap[J.heap.size]?=some (.cells #[q (iC:Int),.string ⟨#[]⟩,.string ⟨#[]⟩,q 0,q 0,.string ⟨#[]⟩,.slice (some ⟨bI.heap.size,0,none⟩) 1 1,.pointer none,q 0,q 0,q 0] 247 (0,0)):=heap_setCell zi _
 have KH:((bI.alloc (.cells #[M bz] 101)).setCell ⟨J.heap.size,6,none⟩ (.slice (some ⟨bI.heap.size,0,none⟩) 1 1)).heap.size=bI.heap.size+1:=by show(Array.modify _ _ _).size=_;rw[Array.size_modify];simp
 go_wp2_with fail;refine(ll 5 5 rfl K b v ts _ fO _ rfl qu _ _ KH KF hs.1).mono ?_;rintro e bh ⟨rfl,oY,fh⟩;have vZ:=fh.size;have xK:=nP KG fh r;have tu:w.grownBy bI (some b):=((dv.trans ((World.grownBy_alloc J _ _).trans bC))).trans gZ;have dh:w.grownBy bh (some b):=(KE (tu.trans (World.grownBy_alloc bI _ _)) dV 6 _).trans fh;clear fg Dz qu xF;go_wp2_with fail;go_ret;refine⟨_,rfl,oY,dh,fun C t au=>?_⟩;obtain⟨x,aa,rfl⟩:=hX.d C t au;have jI:bh.ownsRow w.heap.size 101 1 (.slice (some ⟨bI.heap.size,0,none⟩) 1 1) 1 [M bz]:=(gW fh cY).row (vO (GG bI w.heap.size bI.heap.size rfl (by have:=tu.size;omega) [M bz] (by show 1<=100;omega)) zi K);have zj:=(sn x.1 x.2 aa)
 have DC:df bh (J.heap.size+1) bh.heap.size x.2 [M bz]:=(((zj.kept (uT _ _ _)).kept (it _ _ r)).kept (gW fh r)).wide r (by have:=fh.size;simp at this;omega);exact .node (l1:=J.heap.size+1) (m:=bh.heap.size) (h1:=bh.heap.size) (vs:=[M bz]) (qs:=[]) (val:=al.zero) (p0:=0) (p1:=0) (p2:=0) dV (br xK).1 r ap (.inl r) xK jI (.cons DC (.nil ap)) (.nil ap)
def abJ(P:e4->Option (e4×aL))(b:Nat)(v:Value)(ts:e4)(l:e4)(w:World)(h:Rd w b v ts (some l))(R:et w)(hs:gz ts)(b5:8<=b)(bZ:26<=hk l)(dR:hk l<=29)(he:hk l=26)(xL:cM (c8 4 (some l.tail))≠13)(aj:kl 271 b v ts P (c8 4 (some l.tail))):ey 288 #[M b] w (dU w b v ts (tt P l)):=by
 obtain⟨Y,am⟩:=Rr (P:=P) (l:=l) (fun c2 H e=>xL (by rw[H];exact e.2));generalize fg:c8 4 (some l.tail)=c2 at Y am aj xL;generalize Dz:c2.bind P=rk at Y am;generalize qu:c8 5 (rk.map (·.1))=fO at Y;obtain⟨t0,c3,rfl,DA⟩:=kC (l:=l) rfl r;have bi:jG (some (t0::c3))=(hk (t0::c3),t0):=rfl;have dG:eJ (some (t0::c3))=some c3:=rfl;simp only[List.tail_cons] at fg;unfold dU;rw[<-Y];have lP:=KD (hk (t0::c3)) bZ dR;generalize xF:hk (t0::c3)=j3 at *;generalize so:md.getD j3 0=iC at *;have hX:=u am;have jF:=u lP;have zk:=u he;clear Y am DA lP he;have cY:=h.lt;have lR:j3<30:=r;have Rs:(j3:Int)<30:=r;have Rt:(0:Int)<=(j3:Int):=r;go_enter func288,ntmps288;go_wp2_with fail;refine(xD b v ts _ w h hs.1).mono ?_
 rw[bi,dG];rintro e J ⟨rfl,ft,dv⟩;have dV:=dv.size;have cP:=R.grown dv b5;have nQ:=cP.kinds j3 lR;have GF:=Kz j3 t0 J;simp only[mh];have Ru:dp J 5 j3=some (q (iC:Int)):=by rw[nQ,so]
 clear nQ bi dG so;have sk:=ft.alloc (.cells #[q (iC:Int),.string ⟨#[]⟩,.string ⟨#[]⟩,q 0,q 0,.string ⟨#[]⟩,.slice none 0 0,.pointer none,q 0,q 0,q 0] 247);go_wp2_with fail;refine(ll 4 4 rfl K b v ts (some c3) c2 _ rfl fg _ _ (by simp) sk hs.1).mono ?_;rintro e S ⟨rfl,dW,bC⟩;have ep:J.heap.size+1<=S.heap.size:=by have:=bC.size;simpa using this
 have o0:S.heap[J.heap.size]?=some (.cells #[q (iC:Int),.string ⟨#[]⟩,.string ⟨#[]⟩,q 0,q 0,.string ⟨#[]⟩,.slice none 0 0,.pointer none,q 0,q 0,q 0] 247 (0,0)):=tm rfl ft.lt bC;have DB:et (J.alloc (.cells #[q (iC:Int),.string ⟨#[]⟩,.string ⟨#[]⟩,q 0,q 0,.string ⟨#[]⟩,.slice none 0 0,.pointer none,q 0,q 0,q 0] 247)):=cP.below ((Below.refl J.heap.size _).alloc ap _) cP.js;have gM:=DB.grown bC b5;have ji:=Z o0 (i:=0) rfl;have pF:((iC:Int)==8)=true:=by rw[beq_iff_eq];have:=jF.d;have:=zk.d;omega
 go_wp2_with fail;refine(pE b v ts c2 13 S dW hs.1).mono ?_;have ak:gL 13 c2=c2:=by unfold gL;rw[if_neg xL]
 rw[ak,ax2 xL];rintro e aA ⟨rfl,gY,eC⟩;have iu:=eC.size;have xM:=nP o0 eC r;have sl:=gM.grown eC b5;clear ak;go_wp2_with fail;refine(aj aA gY sl).mono ?_;rw[Dz];rintro e bI ⟨bz,rfl,ns,gZ,sn⟩;have rj:=gZ.size;have zh:=nP xM gZ r;have f6:=aQ (i:=6) (nO zh (.cells #[M bz] 101));have n6:=Z (nO zh (.cells #[M bz] 101)) (i:=6) rfl;have zi:=nO zh (.cells #[M bz] 101);have KF:Rd ((bI.alloc (.cells #[M bz] 101)).setCell ⟨J.heap.size,6,none⟩ (.slice (some ⟨bI.heap.size,0,none⟩) 1 1)) b v ts (rk.map (·.1)):=(ns.alloc _).setNode zi _
 have KG:((bI.alloc (.cells #[M bz] 101)).setCell ⟨J.heap.size,6,none⟩ (.slice (some ⟨bI.heap.size,0,none⟩) 1 1)).heap[J.heap.size]?=some (.cells #[q (iC:Int),.string ⟨#[]⟩,.string ⟨#[]⟩,q 0,q 0,.string ⟨#[]⟩,.slice (some ⟨bI.heap.size,0,none⟩) 1 1,.pointer none,q 0,q 0,q 0] 247 (0,0)):=heap_setCell zi _;have KH:((bI.alloc (.cells #[M bz] 101)).setCell ⟨J.heap.size,6,none⟩ (.slice (some ⟨bI.heap.size,0,none⟩) 1 1)).heap.size=bI.heap.size+1:=by show(Array.modify _ _ _).size=_;rw[Array.size_modify];simp
 go_wp2_with fail;refine(ll 5 5 rfl K b v ts _ fO _ rfl qu _ _ KH KF hs.1).mono ?_;rintro e bh ⟨rfl,oY,fh⟩;have vZ:=fh.size;have xK:=nP KG fh r;have tu:w.grownBy bI (some b):=((dv.trans ((World.grownBy_alloc J _ _).trans bC)).trans eC).trans gZ;have dh:w.grownBy bh (some b):=(KE (tu.trans (World.grownBy_alloc bI _ _)) dV 6 _).trans fh;clear fg Dz qu xF;go_wp2_with fail;go_ret;refine⟨_,rfl,oY,dh,fun C t au=>?_⟩;obtain⟨x,aa,rfl⟩:=hX.d C t au;have jI:bh.ownsRow w.heap.size 101 1 (.slice (some ⟨bI.heap.size,0,none⟩) 1 1) 1 [M bz]:=(gW fh cY).row (vO (GG bI w.heap.size bI.heap.size rfl (by have:=tu.size;omega) [M bz] (by show 1<=100;omega)) zi K);have zj:=(sn x.1 x.2 aa)
 have DC:df bh (J.heap.size+1) bh.heap.size x.2 [M bz]:=(((zj.kept (uT _ _ _)).kept (it _ _ r)).kept (gW fh r)).wide r (by have:=fh.size;simp at this;omega);exact .node (l1:=J.heap.size+1) (m:=bh.heap.size) (h1:=bh.heap.size) (vs:=[M bz]) (qs:=[]) (val:=al.zero) (p0:=0) (p1:=0) (p2:=0) dV (br xK).1 r ap (.inl r) xK jI (.cons DC (.nil ap)) (.nil ap)
def abK(P:e4->Option (e4×aL))(b:Nat)(v:Value)(ts:e4)(l:e4)(w:World)(h:Rd w b v ts (some l))(R:et w)(hs:gz ts)(b5:8<=b)(bZ:26<=hk l)(dR:hk l<=29)(he:hk l=26)(tv:e4)(pI:c8 4 (some l.tail)=some tv)(qr:hk tv=13):ey 288 #[M b] w (dU w b v ts (tt P l)):=by
 obtain⟨Y,am⟩:=abH (P:=P) he pI qr;have Rv:=pI;generalize fg:c8 4 (some l.tail)=c2 at pI Rv;subst pI;generalize qu:c8 5 (some tv.tail)=fO at Y;obtain⟨t0,c3,rfl,DA⟩:=kC (l:=l) rfl r;have bi:jG (some (t0::c3))=(hk (t0::c3),t0):=rfl;have dG:eJ (some (t0::c3))=some c3:=rfl;simp only[List.tail_cons] at fg;unfold dU;rw[<-Y];have lP:=KD (hk (t0::c3)) bZ dR;generalize xF:hk (t0::c3)=j3 at *;generalize so:md.getD j3 0=iC at *;have hX:=u am;have jF:=u lP;have zk:=u he;clear Y am DA lP he;have cY:=h.lt;have lR:j3<30:=r;have Rs:(j3:Int)<30:=r;have Rt:(0:Int)<=(j3:Int):=r;go_enter func288,ntmps288;go_wp2_with fail;refine(xD b v ts _ w h hs.1).mono ?_;rw[bi,dG];rintro e J ⟨rfl,ft,dv⟩;have dV:=dv.size
 have cP:=R.grown dv b5;have nQ:=cP.kinds j3 lR;have GF:=Kz j3 t0 J;simp only[mh];have Ru:dp J 5 j3=some (q (iC:Int)):=by rw[nQ,so]
 clear nQ bi dG so;have sk:=ft.alloc (.cells #[q (iC:Int),.string ⟨#[]⟩,.string ⟨#[]⟩,q 0,q 0,.string ⟨#[]⟩,.slice none 0 0,.pointer none,q 0,q 0,q 0] 247);go_wp2_with fail;refine(ll 4 4 rfl K b v ts (some c3) (some tv) _ rfl fg _ _ (by simp) sk hs.1).mono ?_;rintro e S ⟨rfl,dW,bC⟩;have ep:J.heap.size+1<=S.heap.size:=by have:=bC.size;simpa using this
 have o0:S.heap[J.heap.size]?=some (.cells #[q (iC:Int),.string ⟨#[]⟩,.string ⟨#[]⟩,q 0,q 0,.string ⟨#[]⟩,.slice none 0 0,.pointer none,q 0,q 0,q 0] 247 (0,0)):=tm rfl ft.lt bC;have DB:et (J.alloc (.cells #[q (iC:Int),.string ⟨#[]⟩,.string ⟨#[]⟩,q 0,q 0,.string ⟨#[]⟩,.slice none 0 0,.pointer none,q 0,q 0,q 0] 247)):=cP.below ((Below.refl J.heap.size _).alloc ap _) cP.js;have gM:=DB.grown bC b5;have ji:=Z o0 (i:=0) rfl;have pF:((iC:Int)==8)=true:=by rw[beq_iff_eq];have:=jF.d;have:=zk.d;omega
 go_wp2_with fail;refine(pE b v ts (some tv) 13 S dW hs.1).mono ?_;have xL:cM (some tv)=13:=qr;have ak:gL 13 (some tv)=some tv.tail:=by obtain⟨t1,cX,rfl,_⟩:=kC qr K;unfold gL;rw[if_pos xL];rfl
 rw[ak,ax3 xL];rintro e aA ⟨rfl,gY,eC⟩;have iu:=eC.size;have xM:=nP o0 eC r;have f0:=aQ (i:=0) xM;have dm:=Z xM (i:=0) rfl;have zg:Rd (aA.setCell ⟨J.heap.size,0,none⟩ (q 7)) b v ts (some tv.tail):=gY.setNode xM _;have abL:(aA.setCell ⟨J.heap.size,0,none⟩ (q 7)).heap[J.heap.size]?=some (.cells #[q 7,.string ⟨#[]⟩,.string ⟨#[]⟩,q 0,q 0,.string ⟨#[]⟩,.slice none 0 0,.pointer none,q 0,q 0,q 0] 247 (0,0)):=heap_setCell xM _;clear ak xL;go_wp2_with fail;refine(ll 5 5 rfl K b v ts _ fO _ rfl qu _ _ (by simp) zg hs.1).mono ?_;rintro e bh ⟨rfl,oY,fh⟩;have vZ:=fh.size;have xK:=nP abL fh r;have qw:w.grownBy aA (some b):=(dv.trans ((World.grownBy_alloc J _ _).trans bC)).trans eC;have dh:w.grownBy bh (some b):=(KE qw dV 0 _).trans fh;clear fg qu xF
 go_wp2_with fail;go_ret;refine⟨_,rfl,oY,dh,fun C t au=>?_⟩;rw[hX.d C t au];exact GD (k:=7) (val:=al.zero) dV xK
def Room(f m:Nat)(c:Option (e4)):Prop:=∀C,c=some C->8*C.length+m<=f
def Bp{tag:Nat}(h:bP f tag l=some x):x.1.length<=l.length:=by have h1:=J5 f tag l;rw[h] at h1;obtain⟨sb,e,_⟩:=Qv _ _ _ _ h1;have:=congrArg List.length e;simp only[ip,cZ,cu] at this;omega
def v7{x:e6×e4}(h:dq k l=some x):l.length=x.2.length+1:=by
 match l,h with
 | t::C,h=>
  rw[dq] at h;split at h
  ·obtain rfl:=bx h;rfl
  ·cases h
def Rw{m:Nat}(h:8*l.length+m<=f+8):Room f m (c8 k (some l)):=by intro C ag;rw[oZ] at ag;obtain⟨a,ak,rfl⟩:=Option.map_eq_some_iff.1 ag;have:=v7 ak;omega
def dU.v8{o:Option (e4×aL)}{e:Ending}(h:dU (w.drewN n) b v ts o e w'):dU w b v ts o e w':=by obtain⟨x,h1,H,ab,aK⟩:=h;exact⟨x,h1,H,(q6 w n _).trans ab,aK⟩
def dU.Rx{o:Option (e4×aL)}{e:Ending}{rl:Obj}(h:dU (w.alloc rl) b v ts o e w'):dU w b v ts o e w':=by obtain⟨x,h1,H,ab,aK⟩:=h;exact⟨x,h1,H,(World.grownBy_alloc w rl _).trans ab,fun C t au=>(aK C t au).low (by simp)⟩
def wa(h:cM c=k)(iS:k≠0):∃l,c=some l/\hk l=k:=by
 cases c with
 | none=>exact absurd h (by rw[show cM none=0 from rfl];omega)
 | some l=>exact⟨l,rfl,h⟩
def abM(h:hk l=30):bP (f+1) 0 l=some (l.tail,iQ 3 .nil):=by rw[bP,if_neg r,if_pos h]
def abN(h:hk l=1):bP (f+1) 0 l=hp l:=by rw[bP,if_pos h]
def abO(k:Nat):ek [11,12,13] k=decide (k=11\/k=12\/k=13):=by
 unfold ek;by_cases H:k=11
 ·subst H;rfl
 ·by_cases ab:k=12
  ·subst ab;rfl
  ·by_cases aK:k=13
   ·subst aK;rfl
   ·simp[H,ab,aK]
def abP(h:hk l=4):bP (f+1) 0 l=ri (bP f 0) [11,12,13] l:=by
 obtain⟨t,C,rfl,zl⟩:=kC h K;rw[bP,if_neg r,if_neg r,if_pos h,ri,dq,if_pos zl,b2];show(bP f 0 C).bind _=(bP f 0 C).bind _;congr 1;funext x;rw[abO];by_cases aa:hk x.1=11\/hk x.1=12\/hk x.1=13
 ·rw[if_pos aa,if_pos (ax3 aa)]
 ·rw[if_neg aa,if_neg (by simpa using aa)]
def abQ(h1:26<=hk l)(H:hk l<=29):bP (f+1) 0 l=tt (bP f 0) l:=by rw[bP,if_neg r,if_neg r,if_neg r,if_pos ⟨h1,H⟩];rfl
def abR(h1:hk l≠1)(xN:hk l≠30)(aK:hk l≠4)(ak:¬(26<=hk l/\hk l<=29)):bP (f+1) 0 l=Dt l:=by rw[bP,if_neg h1,if_neg xN,if_neg aK,if_neg ak];rfl
def abS(b:Nat)(v:Value)(ts:e4)(c:Option (e4))(bV:Nat)(e1:cM c=bV)(o:Option (e4×aL))(w:World)(h:Rd w b v ts c)(hs:gz ts)(aj:∀W:World,Rd W b v ts c->W.heap=w.heap->ey 275 #[M b] W (dU W b v ts o))(bZ:bV=1):ey 271 #[M b] w (dU w b v ts o):=by
 have f1:((bV:Int)==1)=true:=by rw[beq_iff_eq];omega
 have cW:=u e1;clear e1;go_enter func271,ntmps271;go_wp2_with (first | (go_at_call 223;refine(oi b v ts c _ h hs.1).mono ?_;rintro e J ⟨rfl,bM,rfl⟩;rw[cW.d]) | (go_at_call 275;refine(aj (w.drewN bM) (h.drewN bM) rfl).mono ?_;rintro am S ⟨cz,rfl,dW,bC,hV⟩));go_ret;exact dU.v8 ⟨cz,rfl,dW,bC,hV⟩
def Ry(b:Nat)(v:Value)(ts:e4)(c:Option (e4))(bV:Nat)(e1:cM c=bV)(o:Option (e4×aL))(w:World)(h:Rd w b v ts c)(hs:gz ts)(aj:∀W:World,Rd W b v ts c->W.heap=w.heap->ey 289 #[M b] W (dU W b v ts o))(h1:bV≠1)(xN:bV≠30)(aK:bV≠4)(ak:¬(26<=bV/\bV<=29)):ey 271 #[M b] w (dU w b v ts o):=by
 have f1:((bV:Int)==1)=false:=by rw[cV];omega
 have f30:((bV:Int)==30)=false:=by rw[cV];omega
 have f4:((bV:Int)==4)=false:=by rw[cV];omega
 have f26:((bV:Int)==26)=false:=by rw[cV];omega
 have f27:((bV:Int)==27)=false:=by rw[cV];omega
 have f28:((bV:Int)==28)=false:=by rw[cV];omega
 have f29:((bV:Int)==29)=false:=by rw[cV];omega
 have cW:=u e1;clear e1;go_enter func271,ntmps271;go_wp2_with (first | (go_at_call 223;refine(oi b v ts c _ h hs.1).mono ?_;rintro e J ⟨rfl,bM,rfl⟩;rw[cW.d]) | (go_at_call 289;refine(aj (w.drewN bM) (h.drewN bM) rfl).mono ?_;rintro am S ⟨cz,rfl,dW,bC,hV⟩));go_ret;exact dU.v8 ⟨cz,rfl,dW,bC,hV⟩
def abT(b:Nat)(v:Value)(ts:e4)(c:Option (e4))(bV:Nat)(e1:cM c=bV)(o:Option (e4×aL))(w:World)(h:Rd w b v ts c)(hs:gz ts)(aj:∀W:World,Rd W b v ts c->W.heap=w.heap->ey 288 #[M b] W (dU W b v ts o))(bZ:bV=26):ey 271 #[M b] w (dU w b v ts o):=by
 have f1:((bV:Int)==1)=false:=by rw[cV];omega
 have f30:((bV:Int)==30)=false:=by rw[cV];omega
 have f4:((bV:Int)==4)=false:=by rw[cV];omega
 have f26:((bV:Int)==26)=true:=by rw[beq_iff_eq];omega
 have cW:=u e1;clear e1;go_enter func271,ntmps271;go_wp2_with (first | (go_at_call 223;refine(oi b v ts c _ h hs.1).mono ?_;rintro e J ⟨rfl,bM,rfl⟩;rw[cW.d]) | (go_at_call 288;refine(aj (w.drewN bM) (h.drewN bM) rfl).mono ?_;rintro am S ⟨cz,rfl,dW,bC,hV⟩));go_ret;exact dU.v8 ⟨cz,rfl,dW,bC,hV⟩
def abU(b:Nat)(v:Value)(ts:e4)(c:Option (e4))(bV:Nat)(e1:cM c=bV)(o:Option (e4×aL))(w:World)(h:Rd w b v ts c)(hs:gz ts)(aj:∀W:World,Rd W b v ts c->W.heap=w.heap->ey 288 #[M b] W (dU W b v ts o))(bZ:bV=27):ey 271 #[M b] w (dU w b v ts o):=by
 have f1:((bV:Int)==1)=false:=by rw[cV];omega
 have f30:((bV:Int)==30)=false:=by rw[cV];omega
 have f4:((bV:Int)==4)=false:=by rw[cV];omega
 have f26:((bV:Int)==26)=false:=by rw[cV];omega
 have f27:((bV:Int)==27)=true:=by rw[beq_iff_eq];omega
 have cW:=u e1;clear e1;go_enter func271,ntmps271;go_wp2_with (first | (go_at_call 223;refine(oi b v ts c _ h hs.1).mono ?_;rintro e J ⟨rfl,bM,rfl⟩;rw[cW.d]) | (go_at_call 288;refine(aj (w.drewN bM) (h.drewN bM) rfl).mono ?_;rintro am S ⟨cz,rfl,dW,bC,hV⟩));go_ret;exact dU.v8 ⟨cz,rfl,dW,bC,hV⟩
def abV(b:Nat)(v:Value)(ts:e4)(c:Option (e4))(bV:Nat)(e1:cM c=bV)(o:Option (e4×aL))(w:World)(h:Rd w b v ts c)(hs:gz ts)(aj:∀W:World,Rd W b v ts c->W.heap=w.heap->ey 288 #[M b] W (dU W b v ts o))(bZ:bV=28):ey 271 #[M b] w (dU w b v ts o):=by
 have f1:((bV:Int)==1)=false:=by rw[cV];omega
 have f30:((bV:Int)==30)=false:=by rw[cV];omega
 have f4:((bV:Int)==4)=false:=by rw[cV];omega
 have f26:((bV:Int)==26)=false:=by rw[cV];omega
 have f27:((bV:Int)==27)=false:=by rw[cV];omega
 have f28:((bV:Int)==28)=true:=by rw[beq_iff_eq];omega
 have cW:=u e1;clear e1;go_enter func271,ntmps271;go_wp2_with (first | (go_at_call 223;refine(oi b v ts c _ h hs.1).mono ?_;rintro e J ⟨rfl,bM,rfl⟩;rw[cW.d]) | (go_at_call 288;refine(aj (w.drewN bM) (h.drewN bM) rfl).mono ?_;rintro am S ⟨cz,rfl,dW,bC,hV⟩));go_ret;exact dU.v8 ⟨cz,rfl,dW,bC,hV⟩
def abW(b:Nat)(v:Value)(ts:e4)(c:Option (e4))(bV:Nat)(e1:cM c=bV)(o:Option (e4×aL))(w:World)(h:Rd w b v ts c)(hs:gz ts)(aj:∀W:World,Rd W b v ts c->W.heap=w.heap->ey 288 #[M b] W (dU W b v ts o))(bZ:bV=29):ey 271 #[M b] w (dU w b v ts o):=by
 have f1:((bV:Int)==1)=false:=by rw[cV];omega
 have f30:((bV:Int)==30)=false:=by rw[cV];omega
 have f4:((bV:Int)==4)=false:=by rw[cV];omega
 have f26:((bV:Int)==26)=false:=by rw[cV];omega
 have f27:((bV:Int)==27)=false:=by rw[cV];omega
 have f28:((bV:Int)==28)=false:=by rw[cV];omega
 have f29:((bV:Int)==29)=true:=by rw[beq_iff_eq];omega
 have cW:=u e1;clear e1;go_enter func271,ntmps271;go_wp2_with (first | (go_at_call 223;refine(oi b v ts c _ h hs.1).mono ?_;rintro e J ⟨rfl,bM,rfl⟩;rw[cW.d]) | (go_at_call 288;refine(aj (w.drewN bM) (h.drewN bM) rfl).mono ?_;rintro am S ⟨cz,rfl,dW,bC,hV⟩));go_ret;exact dU.v8 ⟨cz,rfl,dW,bC,hV⟩
def abX(b:Nat)(v:Value)(ts:e4)(c:Option (e4))(bV:Nat)(e1:cM c=bV)(o:Option (e4×aL))(w:World)(h:Rd w b v ts c)(hs:gz ts)(bZ:bV=30)(ct:eJ c=o.map (·.1))(tq:∀C t,o=some (C,t)->t=iQ 3 .nil):ey 271 #[M b] w (dU w b v ts o):=by
 have f1:((bV:Int)==1)=false:=by rw[cV];omega
 have f30:((bV:Int)==30)=true:=by rw[beq_iff_eq];omega
 have cW:=u e1;have xO:=u ct;have abY:=u tq;clear e1 ct tq;go_enter func271,ntmps271;go_wp2_with (first | (go_at_call 223;refine(oi b v ts c _ h hs.1).mono ?_;rintro e J ⟨rfl,bM,rfl⟩;rw[cW.d]) | (go_at_call 225;refine(xD b v ts c _ (h.drewN bM) hs.1).mono ?_;rw[xO.d];rintro e S ⟨rfl,dW,bC⟩;simp only[mh]));go_ret;have dh:=(q6 w bM (some b)).trans bC;refine⟨_,rfl,dW.alloc _,dh.trans (World.grownBy_alloc S _ _),fun C t au=>?_⟩;rw[abY.d C t au];exact GD (k:=3) (val:=al.zero) dh.size (vY _ _ rfl _)
def abZ(P:e4->Option (e4×aL))(b:Nat)(v:Value)(ts:e4)(c:Option (e4))(bV:Nat)(e1:cM c=bV)(w:World)(h:Rd w b v ts c)(hs:gz ts)(R:et w)(b5:8<=b)(bZ:bV=4)(pG:kl 271 b v ts P (c8 4 c))(go:kl 271 b v ts P (eJ (eV [11,12,13] (((c8 4 c).bind P).map (·.1))))):ey 271 #[M b] w (dU w b v ts (c.bind (ri P [11,12,13]))):=by
 have f1:((bV:Int)==1)=false:=by rw[cV];omega
 have f30:((bV:Int)==30)=false:=by rw[cV];omega
 have f4:((bV:Int)==4)=true:=by rw[beq_iff_eq];omega
 have cW:=u e1;clear e1;generalize ct:c.bind (ri P [11,12,13])=o;have lm:∀W:World,Rd W b v ts c->W.heap=w.heap->ey 287 #[M b,.func (.func 271) #[M b] #[],.slice (some ⟨w.heap.size,0,none⟩) 3 3] (W.alloc (.cells #[q 11,q 12,q 13] 134)) (dU (W.alloc (.cells #[q 11,q 12,q 13] 134)) b v ts o):=by
  intro W aO he;rw[<-ct];have aY:W.heap.size=w.heap.size:=by rw[he]
  have o1:et W:=R.kept (by rw[he];exact ap) (fun k _=>by rw[he]);have GI:=lQ.made W [11,12,13] #[q 11,q 12,q 13] rfl K;rw[aY] at GI;exact ajU _ (.inl rfl) P [11,12,13] _ b v ts c _ (aO.alloc _) GI (o1.below ((Below.refl W.heap.size _).alloc ap _) o1.js) hs b5 K K K pG go
 clear pG go ct;go_enter func271,ntmps271;go_wp2_with (first | (go_at_call 223;refine(oi b v ts c _ h hs.1).mono ?_;rintro e J ⟨rfl,bM,rfl⟩;rw[cW.d]) | fail);refine(lm (w.drewN bM) (h.drewN bM) rfl).mono ?_;rintro am S ⟨cz,rfl,dW,bC,hV⟩;go_wp2_with fail;go_ret;exact dU.v8 (dU.Rx ⟨cz,rfl,dW,bC,hV⟩)
def GJ(P:e4->Option (e4×aL))(b:Nat)(v:Value)(ts:e4)(hs:gz ts):kl 271 b v ts P none:=fun w h _=>Ry b v ts none 0 rfl none w h hs (fun W aO _=>Rn b v ts none W aO hs) K K K K
def Rz:∀(f b:Nat) (v:Value) (ts:e4),gz ts->8<=b->∀c,Room f 1 c->kl 271 b v ts (bP f 0) c:=by
 intro f;induction f with
 | zero=>
  intro b v ts hs b5 c ag;cases c with
  | none=>exact GJ _ b v ts hs
  | some l=>have:=ag l rfl;omega
 | succ f aH=>
  intro b v ts hs b5 c ag w h R;cases c with
  | none=>exact GJ _ b v ts hs w h R
  | some l=>
   have tw:=ag l rfl;rw[b2];by_cases h1:hk l=1
   ·rw[abN h1];exact abS b v ts (some l) 1 h1 _ w h hs (fun W aO _=>Rk b v ts (some l) W aO hs.1) rfl
   by_cases xN:hk l=30
   ·rw[abM xN];refine abX b v ts (some l) 30 xN _ w h hs rfl ?_ (fun C t au=>?_)
    ·obtain⟨t,C,rfl,_⟩:=kC xN K;rfl
    ·simp only[Option.some.injEq,Prod.mk.injEq] at au;exact au.2.symm
   by_cases aK:hk l=4
   ·rw[abP aK];obtain⟨t,C,rfl,zl⟩:=kC aK K;have kz:8*C.length+1<=f:=by rw[di] at tw;omega
    have dG:c8 4 (some (t::C))=some C:=by rw[oZ,dq,if_pos zl];rfl
    refine abZ (bP f 0) b v ts (some (t::C)) 4 aK w h hs R b5 rfl ?_ ?_
    ·rw[dG];exact aH b v ts hs b5 _ (fun lK e=>by obtain rfl:=bx e;exact kz)
    ·refine aH b v ts hs b5 _ (fun lK e=>?_);rw[dG,b2,(Bo [11,12,13] K _).1] at e;cases aa:bP f 0 C with
     | none=>rw[aa] at e;cases e
     | some x=>
      rw[aa] at e;have hle:=Bp aa;simp only[eQ,b2] at e;split at e
      ·obtain rfl:=bx e;rw[List.length_tail];omega
      ·cases e
   by_cases ak:26<=hk l/\hk l<=29
   ·rw[abQ ak.1 ak.2];have KI:Room f 1 (c8 4 (some l.tail)):=Rw (by rw[List.length_tail];omega);have aj:=aH b v ts hs b5 _ KI;have main:∀W:World,Rd W b v ts (some l)->W.heap=w.heap->ey 288 #[M b] W (dU W b v ts (tt (bP f 0) l)):=by
     intro W aO he;have o1:et W:=R.kept (by rw[he];exact ap) (fun k _=>by rw[he]);by_cases Dy:hk l=26
     ·by_cases qr:cM (c8 4 (some l.tail))=13
      ·obtain⟨tv,e,Kg⟩:=wa qr K;exact abK (bP f 0) b v ts l W aO o1 hs b5 ak.1 ak.2 Dy tv e Kg
      ·exact abJ (bP f 0) b v ts l W aO o1 hs b5 ak.1 ak.2 Dy qr aj
     ·exact abI (bP f 0) b v ts l W aO o1 hs b5 ak.1 ak.2 Dy aj
    have:hk l=26\/hk l=27\/hk l=28\/hk l=29:=r;rcases this with e | e | e | e
    ·exact abT b v ts (some l) 26 e _ w h hs main rfl
    ·exact abU b v ts (some l) 27 e _ w h hs main rfl
    ·exact abV b v ts (some l) 28 e _ w h hs main rfl
    ·exact abW b v ts (some l) 29 e _ w h hs main rfl
   ·rw[abR h1 xN aK ak];exact Ry b v ts (some l) (hk l) rfl _ w h hs (fun W aO _=>Rn b v ts (some l) W aO hs) h1 xN aK ak
def pJ(l:e4)(j:Nat)(n:Int)(res:Bool):Prop:=oS n ((l.drop j).map dD)=res
def pJ.yes{n:Int}(h:pJ l j n res)(aS:j<l.length)(hk:dD l[j]=20\/dD l[j]=21):res=true:=by unfold pJ at h;rw[Bj aS,List.map_cons,oS,if_pos hk] at h;exact h.symm
def pJ.no{n:Int}(h:pJ l j n res)(aS:j<l.length)(hk:¬(dD l[j]=20\/dD l[j]=21))(hm:(if dD l[j]=4 then n+1 else if dD l[j]=5 then n-1 else n)=m)(aw:m=0):res=false:=by unfold pJ at h;rw[Bj aS,List.map_cons,oS,if_neg hk,hm,if_pos aw] at h;exact h.symm
def pJ.next{n:Int}(h:pJ l j n res)(aS:j<l.length)(hk:¬(dD l[j]=20\/dD l[j]=21))(hm:(if dD l[j]=4 then n+1 else if dD l[j]=5 then n-1 else n)=m)(aw:m≠0):pJ l (j+1) m res:=by unfold pJ at h ⊢;rw[Bj aS,List.map_cons,oS,if_neg hk,hm,if_neg aw] at h;exact h
def pJ.fin{n:Int}(h:pJ l j n res)(aS:¬j<l.length):res=false:=by unfold pJ at h;rw[List.drop_eq_nil_of_le r] at h;exact h.symm
def RA(b:Nat)(v:Value)(ts l:e4)(w:World)(h:Rd w b v ts (some l))(hs:gz ts)(rm:hk l=4):ey 291 #[M b] w (gU w (.bool (oS 0 (l.map dD)))):=by
 have pK:=hs.1;obtain⟨p,bad,h1,an,aj,fF,ai⟩:=h;have iD:bad=false:=by cases bad with
  | false=>rfl
  | true=>cases ai
 subst iD;obtain rfl:l=ts.drop p:=bx ai;clear ai fF;obtain⟨bk,c1,c2⟩:=h1.cells;obtain⟨t0,c3,rn,_⟩:=kC rm K;have aD:p<ts.length:=by
  rcases Nat.lt_or_ge p ts.length with h | h
  ·exact h
  ·rw[List.drop_eq_nil_of_le h] at rn;cases rn
 clear rn rm;obtain⟨g,af,rfl,_⟩:=Bi an p aD;have om:ts.length<=af:=by
  rcases an.2 with⟨e,_⟩ | ⟨dM,cJ,ay,e,_,_,aK,_⟩
  ·cases e
  ·simp only[Value.slice.injEq] at e;obtain⟨_,_,rfl⟩:=e;exact aK
 generalize Dk:oS 0 ((ts.drop p).map dD)=res;have hO:pJ (ts.drop p) 0 0 res:=Dk;clear Dk;have GK:(p:Int)<=(ts.length:Int):=r;have go:(p:Int)<(af:Int):=r;have lS:(p:Int)<=(af:Int):=r;have sq:(ts.length:Int)<=(af:Int):=r;have arr:g<w.heap.size:=(an.lt g rfl).2;go_enter func291,ntmps291;go_wp2_with fail;go_quiet (fail);go_wp2_with fail;have b7:(ts.drop p).length=ts.length-p:=List.length_drop;go_loopg [3,16] (ts.length-p+1) (fun U c9 i wr=>∃(j:Nat) (n:Int),j<=ts.length-p/\c9=q n/\i=q j/\-(j:Int)<=n/\n<=j/\pJ (ts.drop p) j n res/\eB w wr/\ts.length-p-j<U);case atStart=>exact⟨0,0,bu,rfl,rfl,r,r,hO,below_drewN _ _ _,r⟩
 case round=>
  obtain⟨j,n,aS,rfl,rfl,dA,er,Bq,A,ae⟩:=hrel;have ars:IntKind.i64.wrap ((j:Int)+1)=(j:Int)+1:=mC;have Dp:IntKind.i64.wrap (n+1)=n+1:=mC;have art:IntKind.i64.wrap (n-1)=n-1:=mC;by_cases sr:j<ts.length-p
  ·have ab0:(j:Int)<((ts.length-p:Nat):Int):=r;have KJ:j<(ts.drop p).length:=r;obtain⟨dM,cJ,hv,dG,fg⟩:=Bi (ee an A) (p+j) r;obtain⟨rfl,rfl⟩:g=dM/\af=cJ:=by simpa using hv
   have RB:(p+j)*2=p*2+j*2:=r;rw[RB] at dG fg;have KK:(ts.drop p)[j]=ts[p+j]'r:=List.getElem_drop;have ti:=Bq.yes KJ;have b8:=fun m=>Bq.no (m:=m) KJ;have GL:=fun m=>Bq.next (m:=m) KJ;rw[KK] at ti;simp only[KK] at b8 GL;generalize ts[p+j]'r=t at *;generalize dD t=k at *;have ch:=u ae;clear hv RB KK Bq hO an ae;by_cases hand:k=20\/k=21
   ·obtain rfl:=ti hand;have f4:((k:Int)==4)=false:=by rw[cV];omega
    have f5:((k:Int)==5)=false:=by rw[cV];omega
    clear ti b8 GL;rcases hand with hand | hand
    ·have f20:((k:Int)==20)=true:=by rw[beq_iff_eq];omega
     clear hand;go_wp2_with fail;go_ret;exact⟨rfl,A.alloc A.size _⟩
    ·have f20:((k:Int)==20)=false:=by rw[cV];omega
     have f21:((k:Int)==21)=true:=by rw[beq_iff_eq];omega
     clear hand;go_wp2_with fail;go_ret;exact⟨rfl,A.alloc A.size _⟩
   ·have f20:((k:Int)==20)=false:=by rw[cV];omega
    have f21:((k:Int)==21)=false:=by rw[cV];omega
    have tf:=fun m=>b8 m hand;have Br:=fun m=>GL m hand;clear ti b8 GL hand;by_cases aK:k=4
    ·have f4:((k:Int)==4)=true:=by rw[beq_iff_eq];omega
     have tx:=tf (n+1) (by rw[if_pos aK]);have tz:=Br (n+1) (by rw[if_pos aK]);clear tf Br aK;by_cases aY:n+1=0
     ·have zm:(n+1==0)=true:=by rw[beq_iff_eq];exact aY
      obtain rfl:=tx aY;clear aY tx tz;go_wp2_with fail;go_ret;exact⟨rfl,A.alloc A.size _⟩
     ·have zm:(n+1==0)=false:=by rw[cV];exact aY
      have bn:=u (tz aY);clear aY tx tz;go_wp2_with fail;have ae:=ch.d;go_roundg (gk-1);case measure=>omega
      case rel=>exact⟨j+1,n+1,r,by go_num,by go_num,r,r,bn.d,A.alloc A.size _,r⟩
    ·have f4:((k:Int)==4)=false:=by rw[cV];omega
     by_cases cO:k=5
     ·have f5:((k:Int)==5)=true:=by rw[beq_iff_eq];omega
      have tx:=tf (n-1) (by rw[if_neg aK,if_pos cO]);have tz:=Br (n-1) (by rw[if_neg aK,if_pos cO]);clear tf Br aK cO;by_cases aY:n-1=0
      ·have zm:(n-1==0)=true:=by rw[beq_iff_eq];exact aY
       obtain rfl:=tx aY;clear aY tx tz;go_wp2_with fail;go_ret;exact⟨rfl,A.alloc A.size _⟩
      ·have zm:(n-1==0)=false:=by rw[cV];exact aY
       have bn:=u (tz aY);clear aY tx tz;go_wp2_with fail;have ae:=ch.d;go_roundg (gk-1);case measure=>omega
       case rel=>exact⟨j+1,n-1,r,by go_num,by go_num,r,r,bn.d,A.alloc A.size _,r⟩
     ·have f5:((k:Int)==5)=false:=by rw[cV];omega
      have tx:=tf n (by rw[if_neg aK,if_neg cO]);have tz:=Br n (by rw[if_neg aK,if_neg cO]);clear tf Br aK cO;by_cases aY:n=0
      ·have zm:(n==0)=true:=by rw[beq_iff_eq];exact aY
       obtain rfl:=tx aY;clear aY tx tz;go_wp2_with fail;go_ret;exact⟨rfl,A.alloc A.size _⟩
      ·have zm:(n==0)=false:=by rw[cV];exact aY
       have bn:=u (tz aY);clear aY tx tz;go_wp2_with fail;have ae:=ch.d;go_roundg (gk-1);case measure=>omega
       case rel=>exact⟨j+1,n,r,rfl,by go_num,r,r,bn.d,A.alloc A.size _,r⟩
  ·obtain rfl:=Bq.fin r;have ab0:((ts.length-p:Nat):Int)<=(j:Int):=r;clear Bq ae;go_wp2_with fail;go_ret;exact⟨rfl,A⟩
def uW(P:e4->Option (e4×aL))(ts:e4):Option (e4×aL):=(P ts).bind fun x=>
 if hk x.1=23 then (dq 24 x.1.tail).bind fun z=>some (z.2,iQ 19 (.cons x.2 .nil))
 else if hk x.1=8\/hk x.1=9\/hk x.1=10 then (P x.1.tail).bind fun y=>some (y.1,iQ (md.getD (hk x.1) 0) (.cons x.2 (.cons y.2 .nil))) else none
def ab1(k:Nat):ek [8,9,10] k=decide (k=8\/k=9\/k=10):=by
 unfold ek;by_cases H:k=8
 ·subst H;rfl
 ·by_cases ab:k=9
  ·subst ab;rfl
  ·by_cases aK:k=10
   ·subst aK;rfl
   ·simp[H,ab,aK]
def ab2(h:cM ((c.bind P).map (·.1))=23):c8 24 (eJ ((c.bind P).map (·.1)))=(c.bind (uW P)).map (·.1)/\∀C t,c.bind (uW P)=some (C,t)->∃x,c.bind P=some x/\t=iQ 19 (.cons x.2 .nil):=by
 cases c with
 | none=>exact⟨rfl,fun C t h=>by cases h⟩
 | some l=>
  rw[b2] at h;rw[b2,b2];unfold uW;cases aa:P l with
  | none=>exact⟨rfl,fun C t h=>by cases h⟩
  | some x=>
   rw[aa] at h;have cC:hk x.1=23:=h;rw[b2,if_pos cC];obtain⟨t0,c3,c7,_⟩:=kC cC K;simp only[eQ];rw[c7];rw[List.tail_cons];show c8 24 (some c3)=_/\_;rw[oZ];cases dq 24 c3 with
   | none=>exact⟨rfl,fun C t h=>by cases h⟩
   | some z=>refine⟨rfl,fun C t h=>⟨x,rfl,?_⟩⟩;simp only[b2,Option.some.injEq,Prod.mk.injEq] at h;exact h.2.symm
def ab3(h:cM ((c.bind P).map (·.1))≠23):((eJ (eV [8,9,10] ((c.bind P).map (·.1)))).bind P).map (·.1)=(c.bind (uW P)).map (·.1)/\∀C t,c.bind (uW P)=some (C,t)->∃x y,c.bind P=some x/\(eJ (eV [8,9,10] ((c.bind P).map (·.1)))).bind P=some y/\t=iQ (md.getD (jG (eV [8,9,10] ((c.bind P).map (·.1)))).1 0) (.cons x.2 (.cons y.2 .nil)):=by
 cases c with
 | none=>exact⟨by show((eJ (eV [8,9,10] none)).bind P).map _=none;rw[zf];rfl,fun C t h=>by cases h⟩
 | some l=>
  rw[b2] at h;rw[b2,b2];unfold uW;cases aa:P l with
  | none=>exact⟨by show((eJ (eV [8,9,10] none)).bind P).map _=none;rw[zf];rfl,fun C t h=>by cases h⟩
  | some x=>
   rw[aa] at h;have cC:hk x.1≠23:=h;rw[b2,if_neg cC];simp only[eQ];obtain⟨t1,t2,_⟩:=Bo [8,9,10] K (some x.1);rw[t1] at t2;rw[t1];simp only[b2] at t2 ⊢;rw[ab1] at t2 ⊢;by_cases hi:hk x.1=8\/hk x.1=9\/hk x.1=10
   ·rw[ax3 hi] at t2 ⊢;rw[if_pos hi];obtain⟨t3,_⟩:=t2 x.1.tail rfl;rw[t3];simp only[if_true,b2];cases P x.1.tail with
    | none=>exact⟨rfl,fun C t h=>by cases h⟩
    | some y=>refine⟨rfl,fun C t h=>⟨x,y,rfl,rfl,?_⟩⟩;simp only[b2,Option.some.injEq,Prod.mk.injEq] at h;exact h.2.symm
   ·rw[ax2 hi,if_neg hi];exact⟨rfl,fun C t h=>by cases h⟩
def ab4(P:e4->Option (e4×aL))(b:Nat)(v:Value)(ts:e4)(c:Option (e4))(w:World)(h:Rd w b v ts c)(R:et w)(hs:gz ts)(aj:kl 271 b v ts P c)(qx:cM ((c.bind P).map (·.1))=23):ey 292 #[M b] w (dU w b v ts (c.bind (uW P))):=by
 obtain⟨Y,am⟩:=ab2 qx;unfold dU;generalize tp:c.bind P=jH at Y am qx;generalize fg:eJ (jH.map (·.1))=c2 at Y;generalize nt:c8 24 c2=dZ at Y;rw[<-Y];have hX:=u am;clear Y am;have cY:=h.lt;have ak:gL 23 (jH.map (·.1))=c2:=by unfold gL;rw[if_pos qx,fg]
 go_enter func292,ntmps292;go_wp2_with fail;refine(aj w h R).mono ?_;rw[tp];rintro e J ⟨bz,rfl,ft,dv,pL⟩;have dV:=dv.size;go_wp2_with fail;refine(pE b v ts _ 23 J ft hs.1).mono ?_;rw[ak,ax3 qx];rintro e S ⟨rfl,dW,bC⟩;have ep:=bC.size;clear ak qx fg;go_wp2_with fail;refine(ll 24 24 rfl K b v ts c2 dZ _ rfl nt S _ (by simp) dW hs.1).mono ?_;rintro e aA ⟨rfl,gY,eC⟩;have iu:=eC.size;have dh:w.grownBy aA (some b):=(dv.trans bC).trans eC;clear tp nt;go_wp2_with fail;go_ret;refine⟨_,rfl,(gY.alloc _).alloc _,(dh.trans (World.grownBy_alloc aA _ _)).trans (World.grownBy_alloc _ _ _),fun C t au=>?_⟩;obtain⟨x,aa,rfl⟩:=hX.d C t au;have pH:df aA w.heap.size aA.heap.size x.2 [M bz]:=(((pL x.1 x.2 aa).kept (gW bC cY)).kept (gW eC cY)).high (by have:=bC.size;omega)
 exact(Du (vs:=[M bz]) rfl r (by show 1<=100;omega) (.cons pH (.nil ap))).high (by simp)
def RC(P:e4->Option (e4×aL))(b:Nat)(v:Value)(ts:e4)(c:Option (e4))(w:World)(h:Rd w b v ts c)(R:et w)(hs:gz ts)(b5:8<=b)(aj:kl 271 b v ts P c)(qx:cM ((c.bind P).map (·.1))≠23)(go:kl 271 b v ts P (eJ (eV [8,9,10] ((c.bind P).map (·.1))))):ey 292 #[M b] w (dU w b v ts (c.bind (uW P))):=by
 obtain⟨Y,am⟩:=ab3 qx;have lR:=KA (ks:=[8,9,10]) K (c:=(c.bind P).map (·.1)) K;unfold dU;generalize tp:c.bind P=jH at Y am qx go lR;generalize bi:jG (eV [8,9,10] (jH.map (·.1)))=T at am lR;generalize nt:eJ (eV [8,9,10] (jH.map (·.1)))=dZ at Y am go;generalize tq:dZ.bind P=k2 at Y am;rw[<-Y];have hX:=u am;clear Y am;obtain⟨jt,bG⟩:=T;simp only at lR;have cY:=h.lt;have ak:gL 23 (jH.map (·.1))=jH.map (·.1):=by unfold gL;rw[if_neg qx]
 go_enter func292,ntmps292;go_wp2_with fail;refine(aj w h R).mono ?_;rw[tp];rintro e J ⟨bz,rfl,ft,dv,pL⟩;have dV:=dv.size;have cP:=R.grown dv b5;go_wp2_with fail;refine(pE b v ts _ 23 J ft hs.1).mono ?_;rw[ak,ax2 qx];rintro e S ⟨rfl,dW,bC⟩;have ep:=bC.size;have gM:=cP.grown bC b5;clear ak qx;go_wp2_with fail;refine(GE [8,9,10] _ 3 rfl rfl K b v ts _ dZ _ bi nt S _ (by simp) dW hs.1).mono ?_;rintro e aA ⟨rfl,gY,eC⟩;have iu:=eC.size;have sl:=gM.grown eC b5;have zg:=gY.alloc (.cells #[q (jt:Int),.string bG] 237);have xJ:et (aA.alloc (.cells #[q (jt:Int),.string bG] 237)):=sl.below ((Below.refl aA.heap.size _).alloc ap _) sl.js;clear bi nt;go_wp2_with fail;refine(go _ zg xJ).mono ?_;rw[tq];rintro e bI ⟨cz,rfl,ns,gZ,sn⟩
 have rj:aA.heap.size+1<=bI.heap.size:=by have:=gZ.size;simpa using this
 have Dv:bI.heap[aA.heap.size]?=some (.cells #[q (jt:Int),.string bG] 237 (0,0)):=tm rfl gY.lt gZ;have Dw:=xJ.grown gZ b5;have d0:=Z Dv (i:=0) rfl;have nQ:=Dw.kinds jt lR;have tr:=hX.d;clear hX;generalize md.getD jt 0=iC at nQ tr;have hX:=u tr;clear tr;have Rp:(jt:Int)<30:=r;have Rq:(0:Int)<=(jt:Int):=r;have dh:w.grownBy bI (some b):=((dv.trans bC).trans eC).trans ((World.grownBy_alloc aA _ _).trans gZ);clear tp tq;go_wp2_with fail;go_ret;refine⟨_,rfl,(ns.alloc _).alloc _,(dh.trans (World.grownBy_alloc bI _ _)).trans (World.grownBy_alloc _ _ _),fun C t au=>?_⟩;obtain⟨x,y,aa,hy,rfl⟩:=hX.d C t au;have pH:df bI w.heap.size J.heap.size x.2 [M bz]:=((((pL x.1 x.2 aa).kept (gW bC cY)).kept (gW eC cY)).kept (uT _ _ _)).kept (gW gZ cY)
 have Dx:df bI J.heap.size bI.heap.size y.2 [M cz]:=(sn y.1 y.2 hy).low (by have:=bC.size;have:=eC.size;simp;omega);exact(Du (vs:=[M bz,M cz]) rfl r (by show 2<=100;omega) (.cons pH (.cons Dx (.nil ap)))).high (by simp)
def DD(P:e4->Option (e4×aL))(ts:e4):Option (e4×aL):=(dq 4 ts.tail).bind fun a=>(P a.2).bind fun x=>(dq 5 x.1).bind fun z=>some (z.2,.node 15 ⟨#[]⟩ ⟨#[]⟩ al.zero .nil x.2)
def ab5(h:hk l=25):c8 25 (some l)=some l.tail/\c8 5 (((c8 4 (some l.tail)).bind P).map (·.1))=(DD P l).map (·.1)/\∀C t,DD P l=some (C,t)->∃x,(c8 4 (some l.tail)).bind P=some x/\t=.node 15 ⟨#[]⟩ ⟨#[]⟩ al.zero .nil x.2:=by
 obtain⟨t0,c3,rfl,iS⟩:=kC h K;refine⟨by rw[oZ,dq,if_pos iS];rfl,?_⟩;unfold DD;rw[List.tail_cons,oZ];cases dq 4 c3 with
 | none=>exact⟨rfl,fun C t h=>by cases h⟩
 | some a=>
  simp only[eQ,b2];cases P a.2 with
  | none=>exact⟨rfl,fun C t h=>by cases h⟩
  | some x=>
   simp only[eQ,b2];rw[oZ];cases dq 5 x.1 with
   | none=>exact⟨rfl,fun C t h=>by cases h⟩
   | some z=>refine⟨rfl,fun C t h=>⟨x,rfl,?_⟩⟩;simp only[b2,Option.some.injEq,Prod.mk.injEq] at h;exact h.2.symm
def ab6(P:e4->Option (e4×aL))(b:Nat)(v:Value)(ts:e4)(l:e4)(w:World)(h:Rd w b v ts (some l))(R:et w)(hs:gz ts)(b5:8<=b)(ro:hk l=25)(aj:kl 221 b v ts P (c8 4 (some l.tail))):ey 290 #[M b] w (dU w b v ts (DD P l)):=by
 obtain⟨c7,Y,am⟩:=ab5 (P:=P) ro;unfold dU;generalize fg:c8 4 (some l.tail)=c2 at Y am aj;generalize ct:c2.bind P=o at Y am;generalize xP:c8 5 (o.map (·.1))=gp at Y;rw[<-Y];have hX:=u am;clear Y am ro;have cY:=h.lt;go_enter func290,ntmps290;go_wp2_with fail;refine(ll 25 25 rfl K b v ts (some l) (some l.tail) _ rfl c7 w _ (by simp) h hs.1).mono ?_;rintro e J ⟨rfl,ft,dv⟩;have dV:=dv.size;go_wp2_with fail;refine(ll 4 4 rfl K b v ts (some l.tail) c2 _ rfl fg J _ (by simp) ft hs.1).mono ?_;rintro e S ⟨rfl,dW,bC⟩;have ep:=bC.size;have gM:=(R.grown dv b5).grown bC b5;go_wp2_with fail;refine(aj S dW gM).mono ?_;rw[ct];rintro e aA ⟨bz,rfl,gY,eC,oo⟩;have iu:=eC.size;go_wp2_with fail;refine(ll 5 5 rfl K b v ts _ gp _ rfl xP aA _ (by simp) gY hs.1).mono ?_;rintro e bI ⟨rfl,ns,gZ⟩
 have rj:=gZ.size;have dh:w.grownBy bI (some b):=((dv.trans bC).trans eC).trans gZ;clear c7 fg ct xP;go_wp2_with fail;go_ret;refine⟨_,rfl,ns.alloc _,dh.trans (World.grownBy_alloc bI _ _),fun C t au=>?_⟩;obtain⟨x,aa,rfl⟩:=hX.d C t au;have pH:df bI w.heap.size bI.heap.size x.2 [M bz]:=((oo x.1 x.2 aa).kept (gW gZ r)).wide r rj;exact .node (l1:=w.heap.size) (m:=w.heap.size) (h1:=bI.heap.size) (vs:=[]) (qs:=[M bz]) (val:=al.zero) (p0:=0) (p1:=0) (p2:=0) dh.size (by simp) ap (by simp) (.inr ap) (vY _ _ rfl _) (World.ownsRow_nil _ _ _ _) (.nil ap) (pH.kept (uT _ _ _))
def ab7(h:hk l=22):bP (f+1) 1 l=(bP f 1 l.tail).bind fun x=>some (x.1,iQ 14 (.cons x.2 .nil)):=by rw[bP,if_pos h]
def ab8(h:hk l=25):bP (f+1) 1 l=DD (bP f 2) l:=by rw[bP,if_neg r,if_pos h];rfl
def ab9(k:Nat):ek [20,21] k=decide (k=20\/k=21):=by
 unfold ek;by_cases H:k=20
 ·subst H;rfl
 ·by_cases ab:k=21
  ·subst ab;rfl
  ·simp[H,ab]
def aca(h:hk l=4)(ct:oS 0 (l.map dD)=true):bP (f+1) 1 l=ri (bP f 1) [20,21] l:=by
 obtain⟨t,C,rfl,zl⟩:=kC h K;rw[bP,if_neg r,if_neg r,if_pos ⟨h,ct⟩,ri,dq,if_pos zl,b2];show(bP f 1 C).bind _=(bP f 1 C).bind _;congr 1;funext x;rw[ab9];by_cases aa:hk x.1=20\/hk x.1=21
 ·rw[if_pos aa,if_pos (ax3 aa)]
 ·rw[if_neg aa,if_neg (by simpa using aa)]
def acb(tA:hk l≠22)(ro:hk l≠25)(aK:¬(hk l=4/\oS 0 (l.map dD)=true)):bP (f+1) 1 l=uW (bP f 0) l:=by rw[bP,if_neg tA,if_neg ro,if_neg aK];rfl
def acc(P:e4->Option (e4×aL))(l:e4):((some l.tail).bind P).map (·.1)=((P l.tail).bind fun x=>some (x.1,iQ 14 (.cons x.2 .nil))).map (·.1)/\∀C t,((P l.tail).bind fun x=>some (x.1,iQ 14 (.cons x.2 .nil)))=some (C,t)->∃x,(some l.tail).bind P=some x/\t=iQ 14 (.cons x.2 .nil):=by
 rw[b2];cases P l.tail with
 | none=>exact⟨rfl,fun C t h=>by cases h⟩
 | some x=>refine⟨rfl,fun C t h=>⟨x,rfl,?_⟩⟩;simp only[b2,Option.some.injEq,Prod.mk.injEq] at h;exact h.2.symm
def acd(P:e4->Option (e4×aL))(b:Nat)(v:Value)(ts:e4)(l:e4)(w:World)(h:Rd w b v ts (some l))(R:et w)(hs:gz ts)(b5:8<=b)(tA:hk l=22)(aj:kl 274 b v ts P (some l.tail)):ey 274 #[M b] w (dU w b v ts ((P l.tail).bind fun x=>some (x.1,iQ 14 (.cons x.2 .nil)))):=by
 obtain⟨Y,am⟩:=acc P l;unfold dU;generalize ct:(some l.tail).bind P=o at Y am;rw[<-Y];have hX:=u am;clear Y am;have e1:cM (some l)=22:=tA;have au:eJ (some l)=some l.tail:=by obtain⟨t0,c3,rfl,_⟩:=kC tA K;rfl
 have cY:=h.lt;have cW:=u e1;clear e1;go_enter func274,ntmps274;go_wp2_with (first | (go_at_call 223;refine(oi b v ts _ _ h hs.1).mono ?_;rintro e J ⟨rfl,bM,rfl⟩;rw[cW.d]) | (go_at_call 225;refine(xD b v ts _ _ (h.drewN bM) hs.1).mono ?_;rw[au];rintro e S ⟨rfl,dW,bC⟩;simp only[mh]));have lT:w.grownBy S (some b):=(q6 w bM (some b)).trans bC;refine(aj S dW (R.grown lT b5)).mono ?_;rw[ct];rintro e aA ⟨bz,rfl,gY,eC,oo⟩;have dh:w.grownBy aA (some b):=lT.trans eC;have iu:=dh.size;have ep:=lT.size;clear ct au;go_wp2_with fail;go_ret;refine⟨_,rfl,(gY.alloc _).alloc _,(dh.trans (World.grownBy_alloc aA _ _)).trans (World.grownBy_alloc _ _ _),fun C t au=>?_⟩;obtain⟨x,aa,rfl⟩:=hX.d C t au
 exact(Du (vs:=[M bz]) rfl r (by show 1<=100;omega) (.cons ((oo x.1 x.2 aa).low ep) (.nil ap))).high (by simp)
def ace(b:Nat)(v:Value)(ts:e4)(c:Option (e4))(bV:Nat)(e1:cM c=bV)(o:Option (e4×aL))(w:World)(h:Rd w b v ts c)(hs:gz ts)(aj:∀W:World,Rd W b v ts c->W.heap=w.heap->ey 290 #[M b] W (dU W b v ts o))(ro:bV=25):ey 274 #[M b] w (dU w b v ts o):=by
 have f22:((bV:Int)==22)=false:=by rw[cV];omega
 have f25:((bV:Int)==25)=true:=by rw[beq_iff_eq];omega
 have cW:=u e1;clear e1;go_enter func274,ntmps274;go_wp2_with (first | (go_at_call 223;refine(oi b v ts c _ h hs.1).mono ?_;rintro e J ⟨rfl,bM,rfl⟩;rw[cW.d]) | (go_at_call 290;refine(aj (w.drewN bM) (h.drewN bM) rfl).mono ?_;rintro am S ⟨cz,rfl,dW,bC,hV⟩));go_ret;exact dU.v8 ⟨cz,rfl,dW,bC,hV⟩
def RD(b:Nat)(v:Value)(ts:e4)(c:Option (e4))(bV:Nat)(e1:cM c=bV)(o:Option (e4×aL))(w:World)(h:Rd w b v ts c)(hs:gz ts)(aj:∀W:World,Rd W b v ts c->W.heap=w.heap->ey 292 #[M b] W (dU W b v ts o))(tA:bV≠22)(ro:bV≠25)(aK:bV≠4):ey 274 #[M b] w (dU w b v ts o):=by
 have f22:((bV:Int)==22)=false:=by rw[cV];omega
 have f25:((bV:Int)==25)=false:=by rw[cV];omega
 have f4:((bV:Int)==4)=false:=by rw[cV];omega
 have cW:=u e1;clear e1;go_enter func274,ntmps274;go_wp2_with (first | (go_at_call 223;refine(oi b v ts c _ h hs.1).mono ?_;rintro e J ⟨rfl,bM,rfl⟩;rw[cW.d]) | (go_at_call 292;refine(aj (w.drewN bM) (h.drewN bM) rfl).mono ?_;rintro am S ⟨cz,rfl,dW,bC,hV⟩));go_ret;exact dU.v8 ⟨cz,rfl,dW,bC,hV⟩
def dU.RE{o:Option (e4×aL)}{e:Ending}(A:eB w J)(h:dU J b v ts o e w'):dU w b v ts o e w':=by obtain⟨x,h1,H,ab,aK⟩:=h;refine⟨x,h1,H,(⟨A.os,A.tape,A.output,A.size,fun k hk _=>A.block k hk⟩:w.grownBy J (some b)).trans ab,fun C t au=>(aK C t au).low A.size⟩
def acf(b:Nat)(v:Value)(ts l:e4)(o:Option (e4×aL))(w:World)(h:Rd w b v ts (some l))(hs:gz ts)(aK:hk l=4)(b8:oS 0 (l.map dD)=false)(aj:∀W:World,Rd W b v ts (some l)->eB w W->ey 292 #[M b] W (dU W b v ts o)):ey 274 #[M b] w (dU w b v ts o):=by have cW:Hid (cM (some l)=4):=u aK;have bn:=u b8;clear b8;go_enter func274,ntmps274;go_wp2_with (first | (go_at_call 223;refine(oi b v ts _ _ h hs.1).mono ?_;rintro e J ⟨rfl,bM,rfl⟩;rw[cW.d]) | (go_at_call 291;refine(RA b v ts l _ (h.drewN bM) hs aK).mono ?_;rintro e S ⟨rfl,ah⟩;rw[bn.d]) | (go_at_call 292;refine(aj S ((h.drewN bM).below ah) ((below_drewN _ w bM).trans ah)).mono ?_;rintro bm aA ⟨fP,rfl,gY,eC,oo⟩));go_ret;exact dU.RE ((below_drewN _ w bM).trans ah) ⟨fP,rfl,gY,eC,oo⟩
def acg(P:e4->Option (e4×aL))(b:Nat)(v:Value)(ts l:e4)(w:World)(h:Rd w b v ts (some l))(hs:gz ts)(R:et w)(b5:8<=b)(aK:hk l=4)(ti:oS 0 (l.map dD)=true)(pG:kl 274 b v ts P (c8 4 (some l)))(go:kl 274 b v ts P (eJ (eV [20,21] (((c8 4 (some l)).bind P).map (·.1))))):ey 274 #[M b] w (dU w b v ts (ri P [20,21] l)):=by
 have cW:Hid (cM (some l)=4):=u aK;have bn:=u ti;clear ti;have k0:=R.js;generalize ct:ri P [20,21] l=o;have lm:∀W:World,Rd W b v ts (some l)->eB w W->ey 287 #[M b,.func (.func 274) #[M b] #[],.slice (some ⟨W.heap.size,0,none⟩) 2 2] (W.alloc (.cells #[q 20,q 21] 134)) (dU (W.alloc (.cells #[q 20,q 21] 134)) b v ts o):=by intro W aO bw;rw[<-ct];have o1:et W:=R.below bw k0;have GI:=lQ.made W [20,21] #[q 20,q 21] rfl K;exact ajU _ (.inr rfl) P [20,21] _ b v ts (some l) _ (aO.alloc _) GI (o1.below ((Below.refl W.heap.size _).alloc ap _) o1.js) hs b5 K K K pG go
 clear pG go ct;go_enter func274,ntmps274;go_wp2_with (first | (go_at_call 223;refine(oi b v ts _ _ h hs.1).mono ?_;rintro e J ⟨rfl,bM,rfl⟩;rw[cW.d]) | (go_at_call 291;refine(RA b v ts l _ (h.drewN bM) hs aK).mono ?_;rintro e S ⟨rfl,ah⟩;rw[bn.d]));have bw:=(below_drewN w.heap.size w bM).trans ah;refine(lm S ((h.drewN bM).below ah) bw).mono ?_;rintro bm aA ⟨fP,rfl,gY,eC,oo⟩;go_wp2_with fail;go_ret;exact dU.RE bw (dU.Rx ⟨fP,rfl,gY,eC,oo⟩)
def xQ(P:Nat->e4->Option (e4×aL))(g:Nat)(aP:List aL)(c:Option (e4)):Option (e4×aL):=c.bind fun l=>if hk l=6 then (gV P g l.tail).map (fun y=>(y.1,uU aP y.2)) else some (l,uU aP .nil)
def RF(P:Nat->e4->Option (e4×aL))(f:Nat)(c:Option (e4)):c.bind (gV P (f+1))=xQ P f ((c.bind (P f)).elim [] (fun x=>[x.2])) ((c.bind (P f)).map (·.1)):=by
 cases c with
 | none=>rfl
 | some l=>
  rw[b2,b2,gV];cases P f l with
  | none=>rfl
  | some x=>
   simp only[b2,xQ,eQ,Option.elim_some];split
   ·cases gV P f x.1.tail<;>rfl
   ·rfl
def RG(P:Nat->e4->Option (e4×aL))(g:Nat)(aP:List aL)(l:e4)(h:hk l=6):xQ P (g+1) aP (some l)=xQ P g (aP++((some l.tail).bind (P g)).elim [] (fun x=>[x.2])) (((some l.tail).bind (P g)).map (·.1)):=by
 unfold xQ;rw[b2,if_pos h,b2,gV];cases P g l.tail with
 | none=>rfl
 | some x=>
  simp only[b2,eQ,Option.elim_some,Z0];split
  ·cases gV P g x.1.tail<;>simp
  ·simp[uU]
def RH(P:Nat->e4->Option (e4×aL))(g:Nat)(aP:List aL)(c:Option (e4))(h:cM c≠6):xQ P g aP c=c.map fun l=>(l,uU aP .nil):=by
 unfold xQ;cases c with
 | none=>rfl
 | some l=>rw[b2,if_neg (by exact h)];rfl
def RI(w:World)(b:Nat)(v:Value)(ts:e4)(o:Option (e4×aL))(e:Ending)(w':World):Prop:=∃(c9:Value) (xs:List Value),e=.returned c9/\w'.ownsRow w.heap.size 101 1 c9 xs.length xs/\Rd w' b v ts (o.map (·.1))/\w.grownBy w' (some b)/\∀C t,o=some (C,t)->df w' w.heap.size w'.heap.size t xs
def GM(P:Nat->e4->Option (e4×aL))(ln tB:Nat)(w:World)(b:Nat)(v:Value)(ts:e4)(o:Option (e4×aL))(c9:Value)(wr:World)(g:Nat)(aP:List aL)(c:Option (e4))(xs:List Value):Prop:=wr.ownsRow w.heap.size 101 1 c9 xs.length xs/\Rd wr b v ts c/\w.grownBy wr (some b)/\(∀l,c=some l->(∃c0:Nat->Prop,hU wr c0 w.heap.size wr.heap.size (uU aP .nil) xs/\∀k,c0 k->w.heap.size<=k/\k<wr.heap.size/\c9.ownBlock≠some k)/\ln*l.length+tB<=g/\xs.length+l.length<=1001)/\o=xQ P g aP c
def GN:(prog.info? 101).map (fun i=>(i.zero,i.size,i.bytes))=some (some (.pointer none),1,8):=ax
def Rd.len(h:Rd w b v ts (some l)):l.length<=ts.length:=by
 obtain⟨p,bad,_,_,_,_,ai⟩:=h;cases bad
 ·obtain rfl:=bx ai;rw[List.length_drop];omega
 ·cases ai
def RJ(W:World)(lo N:Nat)(cS:W.heap.size=N)(eI:lo<=N)(x:Value):(W.alloc (.cells #[x] 101)).ownsRow lo 101 1 (.slice (some ⟨N,0,none⟩) 1 1) 1 [x]:=GG W lo N cS eI [x] (by show 1<=100;omega)
def RK(h:Rd w b v ts c)(an:w.ownsRow base 101 1 c9 n xs)(R:w.grownBy w' c9.ownBlock):Rd w' b v ts c:=by
 obtain⟨p,bad,h1,H,ab⟩:=h;have cy:some b≠c9.ownBlock:=by
  rcases zc h1 an K with e | e
  ·rw[e];simp
  ·exact fun bo=>e bo.symm
 refine⟨p,bad,(R.block b h1.lt cy).trans h1,H.kept R ?_,ab⟩;rcases H.2 with⟨rfl,_⟩ | ⟨g,af,ay,rfl,_,ed,_⟩
 ·exact Or.inl rfl
 ·rcases zc ed an K with e | e
  ·right;rw[e];simp[Value.ownBlock]
  ·right;intro bo;exact e bo.symm
def KL(h:w.grownBy W C)(an:W.ownsRow w.heap.size e size c9 n xs)(R:W.grownBy aU c9.ownBlock):w.grownBy aU C:=⟨R.os.trans h.os,R.tape.trans h.tape,R.output.trans h.output,bX h.size R.size,fun k hk ar=>(R.block k (e0 hk h.size) (fun e=>by have:=(an.lt k e.symm).1;omega)).trans (h.block k hk ar)⟩
def list_fn(fn:Nat)(JD:fn=271\/fn=275)(P:Nat->e4->Option (e4×aL))(ln tB f:Nat)(aci:1<=ln)(b:Nat)(v:Value)(ts:e4)(c:Option (e4))(w:World)(h:Rd w b v ts c)(R:et w)(hs:gz ts)(b5:8<=b)(hle:∀n l x,P n l=some x->x.1.length<=l.length)(aj:∀n e7,n<=f->(∀C,e7=some C->ln*C.length+tB<=n)->kl fn b v ts (P n) e7)(ai:∀C,c=some C->ln*C.length+tB<=f):ey 270 #[M b,.func (.func fn) #[M b] #[]] w (RI w b v ts (c.bind (gV P (f+1)))):=by
 rcases JD with rfl | rfl
 all_goals
  obtain⟨i0,hi,gj,gx,cd⟩:=info_parts GN;have pK:=hs.1;have c4:=RF P f c;generalize ct:c.bind (gV P (f+1))=o at c4;clear ct;have cY:=h.lt;go_enter func270,ntmps270;go_wp2_with fail;refine(aj f c ap ai w h R).mono ?_;rintro e J ⟨bz,rfl,ft,dv,pL⟩;have dV:=dv.size;have np:GM P ln tB w b v ts o (.slice (some ⟨J.heap.size,0,none⟩) 1 1) (J.alloc (.cells #[M bz] 101)) f ((c.bind (P f)).elim [] (fun x=>[x.2])) ((c.bind (P f)).map (·.1)) [M bz]:=by
   refine⟨RJ J w.heap.size _ rfl dV _,ft.alloc _,dv.trans (World.grownBy_alloc _ _ _),fun l X=>?_,c4⟩;obtain⟨x,aa,rfl⟩:=Option.map_eq_some_iff.1 X;obtain⟨eR,rfl,tC⟩:=aV aa;have h1:=hle f eR x tC;have H:=ai eR rfl;have ab:=h.len;rw[aa];refine⟨⟨_,.cons ((pL x.1 x.2 aa).Gl.kept (fun k hk=>Below.heap_alloc J _ k hk.2)) (.nil (by simp)),fun k hk=>⟨hk.1,by simp;omega,by simp[Value.ownBlock];omega⟩⟩,?_,by simp;omega⟩;have:=Nat.mul_le_mul_left ln h1;omega
  clear c4 pL ft;go_wp2_with fail;go_loopg [5] (f+2) (fun U c9 wr=>∃(g:Nat) (aP:List aL) (dz:Option (e4)) (xs:List Value),GM P ln tB w b v ts o c9 wr g aP dz xs/\g<=f/\g<U);case atStart=>exact⟨f,_,_,_,np,ap,r⟩
  case round=>
   clear np;obtain⟨g,aP,dz,xs,⟨an,b1,dh,fz,hY⟩,RL,mj⟩:=hrel;go_wp2_with fail;refine(pE b v ts dz 6 wr b1 hs.1).mono ?_;by_cases cE:cM dz=6
   ·rw[ax3 cE];obtain⟨l,rfl,ss⟩:=wa cE K;obtain⟨KM,acj,mI⟩:=fz l rfl;obtain⟨t0,c3,rfl,_⟩:=kC ss K;have tD:ln*(t0::c3).length=ln*c3.length+ln:=by rw[di,Nat.mul_add,Nat.mul_one]
    have RM:xs.length+(c3.length+1)<=1001:=mI;obtain⟨g,rfl⟩:∃dM,g=dM+1:=⟨g-1,r⟩;have oq:gL 6 (some (t0::c3))=some c3:=by unfold gL;rw[if_pos cE];rfl
    rw[oq];rw[RG P g aP _ ss,List.tail_cons] at hY;have tE:=u hY;clear hY oq fz;rintro e S ⟨rfl,dW,bC⟩;have lT:=dh.trans bC;have ej:S.ownsRow w.heap.size 101 1 u5 xs.length xs:=(gW bC cY).row an;go_wp2_with fail;refine(aj g (some c3) r (fun C e=>by obtain rfl:=bx e;omega) S dW (R.grown lT b5)).mono ?_;rintro e aA ⟨fP,rfl,gY,eC,oo⟩;have qw:=lT.trans eC;have iu:=qw.size;have ep:=lT.size;have ie:aA.ownsRow w.heap.size 101 1 u5 xs.length xs:=(gW eC cY).row ej
    go_wp2_with (at_builtin;refine wpList_append_lies _ rfl _ _ 99 rfl w.heap.size 101 i0 (.pointer none) 1 8 underlying99 hi gj gx cd rfl K u5 xs.length xs rfl (ie.alloc _) ⟨aA.heap.size,0,none⟩ 1 1 [M fP] rfl rfl (cell_one_new _ _ _) (by simp[Value.oneCell']) K (by unfold maxLen;omega) r (by simp;omega) (aA.heap.size+1) (by simp) ?_;intro g5 ml bh py jE tc xu);have hY:=tE.d;go_roundg (gk-1);case measure=>omega
    case rel=>
     refine⟨g,_,_,xs++[M fP],⟨by rw[cu];exact py,RK (gY.alloc _) (ie.alloc _) jE,KL (qw.trans (World.grownBy_alloc _ _ _)) (ie.alloc _) jE,fun l X=>?_,hY⟩,r,r⟩;obtain⟨x,aa,rfl⟩:=Option.map_eq_some_iff.1 X;have h1:=hle g c3 x aa;obtain⟨c0,cv,zn⟩:=KM;have Dp:=bC.size;have ack:=eC.size;have acl:(aA.alloc (.cells #[M fP] 101)).heap.size=aA.heap.size+1:=by simp
     have acm:=jE.size;have KN:∀k,c0 k->bh.heap[k]?=wr.heap[k]?:=fun k hk=>by obtain⟨aI,aZ,a6⟩:=zn k hk;rw[jE.block k r (fun e=>a6 e.symm),Below.heap_alloc aA _ k r,eC.block k r (by simp;omega),bC.block k aZ (by simp;omega)]
     have DE:∀k,u5.ownBlock=some k->k<wr.heap.size:=fun k hk=>(an.lt k hk).2;have qy:∀k,S.heap.size<=k/\k<aA.heap.size->bh.heap[k]?=aA.heap[k]?:=fun k hk=>by rw[jE.block k r (fun e=>by have:=DE k e.symm;omega),Below.heap_alloc aA _ k hk.2]
     have cr:=(cv.kept KN).mono (S':=fun k=>c0 k\/(S.heap.size<=k/\k<aA.heap.size)) (fun k h=>Or.inl h);have bw:=((oo x.1 x.2 aa).Gl.kept qy).mono (S':=fun k=>c0 k\/(S.heap.size<=k/\k<aA.heap.size)) (fun k h=>Or.inr h);rw[aa];refine⟨⟨_,(hU.snoc bw (cr.wide ap Dp)).wide ap r,fun k hk=>?_⟩,?_,by simp;omega⟩
     ·rcases hk with hk | hk
      ·obtain⟨aI,aZ,a6⟩:=zn k hk;refine⟨aI,r,?_⟩;rcases tc with e | e
       ·rw[e] at a6;exact a6
       ·simp[Value.ownBlock];omega
      ·refine⟨r,r,?_⟩;rcases tc with e | e
       ·have:=DE _ e;simp[Value.ownBlock];omega
       ·simp[Value.ownBlock];omega
     ·have:=Nat.mul_le_mul_left ln h1;omega
   ·rw[ax2 cE];have oq:gL 6 dz=dz:=by unfold gL;rw[if_neg cE]
    rw[oq];rw[RH P g aP dz cE] at hY;have tE:=u hY;clear hY oq;rintro e S ⟨rfl,dW,bC⟩;have lT:=dh.trans bC;have ej:S.ownsRow w.heap.size 101 1 u5 xs.length xs:=(gW bC cY).row an;clear cE;go_wp2_with fail;go_ret;have hY:=tE.d;refine⟨u5,xs,rfl,ej,?_,lT,fun C t au=>?_⟩
    ·rw[hY];cases dz with
     | none=>exact dW
     | some l=>exact dW
    ·rw[hY] at au;cases dz with
     | none=>cases au
     | some l=>obtain⟨⟨c0,cv,zn⟩,_⟩:=fz l rfl;simp only[eQ,Option.some.injEq,Prod.mk.injEq] at au;rw[<-au.2];exact(cv.Qw.kept (gW bC cY)).high bC.size
def aco(c:Option (e4)):c8 1 (c8 1 c)=(c.bind hP).map (·.1)/\∀C s,c.bind hP=some (C,s)->s=((mH 1 c).2,(mH 1 (c8 1 c)).2):=by
 unfold c8 mH ze;cases c with
 | none=>exact⟨rfl,fun C t h=>by cases h⟩
 | some ts=>
  simp only[b2];unfold hP;cases dq 1 ts with
  | none=>exact⟨rfl,fun C t h=>by cases h⟩
  | some a=>
   simp only[eQ,b2];cases dq 1 a.2 with
   | none=>exact⟨rfl,fun C t h=>by cases h⟩
   | some x=>refine⟨rfl,fun C t h=>?_⟩;simp only[b2,Option.some.injEq,Prod.mk.injEq] at h;exact h.2.symm
def RN(w:World)(b:Nat)(v:Value)(ts:e4)(o:Option (e4×(e6×e6)))(e:Ending)(w':World):Prop:=∃s1 s2:e6,e=.returned (.agg #[.string s1,.string s2])/\Rd w' b v ts (o.map (·.1))/\w.grownBy w' (some b)/\∀C s,o=some (C,s)->s=(s1,s2)
def RO(b:Nat)(v:Value)(ts:e4)(c:Option (e4))(w:World)(h:Rd w b v ts c)(X:ts.length<=1000):ey 273 #[M b] w (RN w b v ts (c.bind hP)):=by
 obtain⟨Y,am⟩:=aco c;unfold RN;generalize Ds:mH 1 c=Dq at am;generalize dG:c8 1 c=c1 at Y am;generalize tF:mH 1 c1=Dr at am;generalize fg:c8 1 c1=c2 at Y;rw[<-Y];have hX:=u am;clear Y am;obtain⟨Bn,xG⟩:=Dq;obtain⟨RP,GO⟩:=Dr;have cY:=h.lt;have fs:=h.own;have xE:=h.alloc (.cells #[.string ⟨#[]⟩,.string ⟨#[]⟩] 161);go_enter func273,ntmps273;go_wp2_with fail;refine(ll 1 1 rfl K b v ts c c1 _ Ds dG _ _ (by simp) xE X).mono ?_;rintro e J ⟨rfl,ft,dv⟩;have sk:=ft.alloc (.cells #[q (Bn:Int),.string xG] 237);have dV:w.heap.size+1<=J.heap.size:=by have:=dv.size;simpa using this
 have acp:=tm (o:=.cells #[.string ⟨#[]⟩,.string ⟨#[]⟩] 161) rfl cY dv;go_wp2_with fail;refine(ll 1 1 rfl K b v ts c1 c2 _ tF fg _ _ (by simp) sk X).mono ?_;rintro e S ⟨rfl,dW,bC⟩;have ep:J.heap.size+1<=S.heap.size:=by have:=bC.size;simpa using this
 have Ky:S.heap[J.heap.size]?=some (.cells #[q (Bn:Int),.string xG] 237 (0,0)):=tm rfl ft.lt bC;have xH:=nP (nO acp (.cells #[q (Bn:Int),.string xG] 237)) bC r;have zo:=nO xH (.cells #[q (RP:Int),.string GO] 237);have d1:=Z (nO Ky (.cells #[q (RP:Int),.string GO] 237)) (i:=1) rfl;have ji:=Z zo (i:=0) rfl;have bM:=Z zo (i:=1) rfl;have f0:=aQ (i:=0) zo;have f1:=aQ (i:=1) zo;have dh:w.grownBy S (some b):=((World.grownBy_alloc w _ _).trans dv).trans ((World.grownBy_alloc J _ _).trans bC);clear Ds dG tF fg;go_wp2_with fail;refine bodyPost_ret (v:=.agg #[.string xG,.string GO]) (by simp[results,results273,go_sem, *]) rfl ⟨xG,GO,rfl,?_,?_,fun C s hs=>hX.d C s hs⟩
 ·exact((dW.alloc _).pD fs cY ap _).pD fs cY ap _
 ·exact k1 (k1 (dh.trans (World.grownBy_alloc S _ _)) ap _ _) ap _ _
def xR(g:Nat)(aP:lh)(c:Option (e4)):Option (e4×lh):=c.bind fun l=>if hk l=6 then (eM g l.tail).map (fun y=>(y.1,aP++y.2)) else some (l,aP)
def acq(f:Nat)(c:Option (e4)):c.bind (eM (f+1))=xR f ((c.bind hP).elim [] (fun x=>[x.2])) ((c.bind hP).map (·.1)):=by
 cases c with
 | none=>rfl
 | some l=>
  rw[b2,b2,eM];cases hP l with
  | none=>rfl
  | some x=>
   simp only[b2,xR,eQ,Option.elim_some];split
   ·cases eM f x.1.tail<;>rfl
   ·rfl
def acr(g:Nat)(aP:lh)(l:e4)(h:hk l=6):xR (g+1) aP (some l)=xR g (aP++((some l.tail).bind hP).elim [] (fun x=>[x.2])) (((some l.tail).bind hP).map (·.1)):=by
 unfold xR;rw[b2,if_pos h,b2,eM];cases hP l.tail with
 | none=>rfl
 | some x=>
  simp only[b2,eQ,Option.elim_some];split
  ·cases eM g x.1.tail<;>simp
  ·simp
def acs(g:Nat)(aP:lh)(c:Option (e4))(h:cM c≠6):xR g aP c=c.map fun l=>(l,aP):=by
 unfold xR;cases c with
 | none=>rfl
 | some l=>rw[b2,if_neg (by exact h)];rfl
def GP{x:e4×(e6×e6)}(h:hP l=some x):x.1.length<=l.length:=by unfold hP at h;obtain⟨a,ak,h⟩:=aV h;obtain⟨aq,bb,h⟩:=aV h;obtain rfl:=bx h;have:=v7 ak;have:=v7 bb;show aq.2.length<=_;omega
def acu(w:World)(b:Nat)(v:Value)(ts:e4)(o:Option (e4×lh))(e:Ending)(w':World):Prop:=∃(c9:Value) (n:Nat) (xs:List Value),e=.returned c9/\w'.ownsRow w.heap.size 161 2 c9 n xs/\Rd w' b v ts (o.map (·.1))/\w.grownBy w' (some b)/\∀C l,o=some (C,l)->n=l.length/\xs=lj l
def RQ(w:World)(b:Nat)(v:Value)(ts:e4)(o:Option (e4×lh))(c9:Value)(wr:World)(g:Nat)(aP:lh)(c:Option (e4))(n:Nat)(xs:List Value):Prop:=wr.ownsRow w.heap.size 161 2 c9 n xs/\Rd wr b v ts c/\w.grownBy wr (some b)/\(∀l,c=some l->n=aP.length/\xs=lj aP/\l.length<=g/\n+l.length<=1001)/\o=xR g aP c
def acv:(prog.info? 161).map (fun i=>(i.zero,i.size,i.bytes))=some (some (.agg #[.string ⟨#[]⟩,.string ⟨#[]⟩]),2,32):=ax
def acw(w:World)(a b:Value)(t:TypeId):∀j bp,([a,b]:List Value)[j]?=some bp->(w.alloc (.cells #[a,b] t)).cell? ((⟨w.heap.size,0,none⟩:Addr).add j)=some bp:=World.news_of_block (cs:=#[a,b]) (bH w _)
def acx(W:World)(lo N:Nat)(cS:W.heap.size=N)(eI:lo<=N)(x y:Value):(W.alloc (.cells #[x,y] 161)).ownsRow lo 161 2 (.slice (some ⟨N,0,none⟩) 1 1) 1 [x,y]:=by subst cS;exact⟨rfl,Or.inr ⟨W.heap.size,1,#[x,y],rfl,eI,bH W _,ap,by unfold maxLen;omega,rfl,rfl⟩⟩
def acy(h:Rd w b v ts c)(an:w.ownsRow base 161 2 c9 n xs)(R:w.grownBy w' c9.ownBlock):Rd w' b v ts c:=by
 obtain⟨p,bad,h1,H,ab⟩:=h;have cy:some b≠c9.ownBlock:=by
  rcases zc h1 an K with e | e
  ·rw[e];simp
  ·exact fun bo=>e bo.symm
 refine⟨p,bad,(R.block b h1.lt cy).trans h1,H.kept R ?_,ab⟩;rcases H.2 with⟨rfl,_⟩ | ⟨g,af,ay,rfl,_,ed,_⟩
 ·exact Or.inl rfl
 ·rcases zc ed an K with e | e
  ·right;rw[e];simp[Value.ownBlock]
  ·right;intro bo;exact e bo.symm
def acz(l:lh)(s:e6×e6):lj (l++[s])=lj l++[.string s.1,.string s.2]:=by simp[lj]
def acA(f:Nat)(b:Nat)(v:Value)(ts:e4)(c:Option (e4))(w:World)(h:Rd w b v ts c)(hs:gz ts)(ai:∀C,c=some C->C.length<=f):ey 272 #[M b,.func (.func 273) #[M b] #[]] w (acu w b v ts (c.bind (eM (f+1)))):=by
 obtain⟨i0,hi,gj,gx,cd⟩:=info_parts acv;have pK:=hs.1;have c4:=acq f c;generalize ct:c.bind (eM (f+1))=o at c4;clear ct;have cY:=h.lt;go_enter func272,ntmps272;go_wp2_with fail;refine(RO b v ts c w h pK).mono ?_;rintro e J ⟨s1,s2,rfl,ft,dv,pL⟩;have dV:=dv.size;have np:RQ w b v ts o (.slice (some ⟨J.heap.size,0,none⟩) 1 1) (J.alloc (.cells #[.string s1,.string s2] 161)) f ((c.bind hP).elim [] (fun x=>[x.2])) ((c.bind hP).map (·.1)) 1 [.string s1,.string s2]:=by
  refine⟨acx J w.heap.size _ rfl dV _ _,ft.alloc _,dv.trans (World.grownBy_alloc _ _ _),fun l X=>?_,c4⟩;obtain⟨x,aa,rfl⟩:=Option.map_eq_some_iff.1 X;obtain⟨eR,rfl,tC⟩:=aV aa;have h1:=GP tC;have H:=ai eR rfl;have ab:=h.len;have aK:=pL x.1 x.2 aa;rw[aa];refine⟨rfl,?_,r,r⟩;show _=lj [x.2];rw[aK];rfl
 clear c4 pL ft;go_wp2_with fail;go_loopg [5] (f+2) (fun U c9 wr=>∃(g:Nat) (aP:lh) (dz:Option (e4)) (n:Nat) (xs:List Value),RQ w b v ts o c9 wr g aP dz n xs/\g<=f/\g<U);case atStart=>exact⟨f,_,_,_,_,np,ap,r⟩
 case round=>
  clear np;obtain⟨g,aP,dz,n,xs,⟨an,b1,dh,fz,hY⟩,RL,mj⟩:=hrel;go_wp2_with fail;refine(pE b v ts dz 6 wr b1 hs.1).mono ?_;by_cases cE:cM dz=6
  ·rw[ax3 cE];obtain⟨l,rfl,ss⟩:=wa cE K;obtain⟨xS,RR,RS,mI⟩:=fz l rfl;obtain⟨t0,c3,rfl,_⟩:=kC ss K;have RM:n+(c3.length+1)<=1001:=mI;have aru:c3.length+1<=g:=RS;obtain⟨g,rfl⟩:∃dM,g=dM+1:=⟨g-1,r⟩;have oq:gL 6 (some (t0::c3))=some c3:=by unfold gL;rw[if_pos cE];rfl
   rw[oq];rw[acr g aP _ ss,List.tail_cons] at hY;have tE:=u hY;have acB:=u RR;have zp:=u xS;clear hY oq fz RR xS;rintro e S ⟨rfl,dW,bC⟩;have lT:=dh.trans bC;have ej:S.ownsRow w.heap.size 161 2 u5 n xs:=(gW bC cY).row an;go_wp2_with fail;refine(RO b v ts (some c3) S dW pK).mono ?_;rintro e aA ⟨s1,s2,rfl,gY,eC,oo⟩;have qw:=lT.trans eC;have iu:=qw.size;have ep:=lT.size;have ie:aA.ownsRow w.heap.size 161 2 u5 n xs:=(gW eC cY).row ej
   go_wp2_with (at_builtin;refine wpList_append_lies _ rfl _ _ 100 rfl w.heap.size 161 i0 (.agg #[.string ⟨#[]⟩,.string ⟨#[]⟩]) 2 32 underlying100 hi gj gx cd rfl K u5 n xs rfl (ie.alloc _) ⟨aA.heap.size,0,none⟩ 1 1 [.string s1,.string s2] rfl rfl (acw _ _ _ _) (by simp[Value.oneCell']) K (by unfold maxLen;omega) r (by simp;omega) (aA.heap.size+1) (by simp) ?_;intro g5 ml bh py jE tc xu);have hY:=tE.d;go_roundg (gk-1);case measure=>omega
   case rel=>
    refine⟨g,_,_,n+1,xs++[.string s1,.string s2],⟨py,acy (gY.alloc _) (ie.alloc _) jE,KL (qw.trans (World.grownBy_alloc _ _ _)) (ie.alloc _) jE,fun l X=>?_,hY⟩,r,r⟩;obtain⟨x,aa,rfl⟩:=Option.map_eq_some_iff.1 X;have h1:=GP (by simpa using aa:hP c3=some x);have aK:=oo x.1 x.2 aa;have cO:=acB.d;have kD:=zp.d;rw[aa];refine⟨?_,?_,r,r⟩
    ·show n+1=(aP++[x.2]).length;rw[cu,kD];rfl
    ·show xs++_=lj (aP++[x.2]);rw[acz,aK,cO]
  ·rw[ax2 cE];have oq:gL 6 dz=dz:=by unfold gL;rw[if_neg cE]
   rw[oq];rw[acs g aP dz cE] at hY;have tE:=u hY;clear hY oq;rintro e S ⟨rfl,dW,bC⟩;have lT:=dh.trans bC;have ej:S.ownsRow w.heap.size 161 2 u5 n xs:=(gW bC cY).row an;clear cE;go_wp2_with fail;go_ret;have hY:=tE.d;refine⟨u5,n,xs,rfl,ej,?_,lT,fun C l au=>?_⟩
   ·rw[hY];cases dz with
    | none=>exact dW
    | some l=>exact dW
   ·rw[hY] at au;cases dz with
    | none=>cases au
    | some eR=>obtain⟨h1,H,_⟩:=fz eR rfl;simp only[eQ,Option.some.injEq,Prod.mk.injEq] at au;rw[<-au.2];exact⟨h1,H⟩
def o2(k f:Nat)(l:e4):Option (e4×aL):=if hk l=k then bP f 1 l.tail else some (l,.nil)
def su(l:e4):Option (e4×aL):=if hk l=17 then (dq 18 l.tail).bind fun c=>gV (fun _=>hp) (c.2.length+1) c.2 else some (l,.nil)
def DF(l:e4):Option (e4×lh):=eM (l.length+1) l
def acC(f:Nat)(c:Option (e4)){s1 dd k3 jm:Option (e4)}{k2:Option (e4×aL)}{mJ:Option (e4×lh)}{tG zq Bs:Option (e4×aL)}(h1:c8 14 c=s1)(H:s1.bind (bP f 3)=k2)(ab:c8 15 (k2.map (·.1))=dd)(aK:dd.bind DF=mJ)(cO:(mJ.map (·.1)).bind (o2 16 f)=tG)(we:tG.map (·.1)=k3)(kD:k3.bind su=zq)(uX:zq.map (·.1)=jm)(b5:jm.bind (o2 19 f)=Bs):Bs.map (·.1)=(c.bind (bP (f+1) 2)).map (·.1)/\∀C t,c.bind (bP (f+1) 2)=some (C,t)->∃x s y g z,k2=some x/\mJ=some s/\tG=some y/\zq=some g/\Bs=some z/\t=.query x.2 s.2 y.2 g.2 z.2:=by
 subst h1 H ab aK cO we kD uX b5;cases c with
 | none=>exact⟨rfl,fun C t h=>by cases h⟩
 | some l=>
  rw[b2,bP,oZ];cases dq 14 l with
  | none=>exact⟨rfl,fun C t h=>by cases h⟩
  | some a=>
   simp only[eQ,b2];cases bP f 3 a.2 with
   | none=>exact⟨rfl,fun C t h=>by cases h⟩
   | some x=>
    simp only[eQ,b2];rw[oZ];cases dq 15 x.1 with
    | none=>exact⟨rfl,fun C t h=>by cases h⟩
    | some aq=>
     simp only[eQ,b2];unfold DF;cases eM (aq.2.length+1) aq.2 with
     | none=>exact⟨rfl,fun C t h=>by cases h⟩
     | some s=>
      simp only[eQ,b2];have Y:(if hk s.1=16 then bP f 1 s.1.tail else some (s.1,.nil))=o2 16 f s.1:=rfl;rw[Y];cases o2 16 f s.1 with
      | none=>exact⟨rfl,fun C t h=>by cases h⟩
      | some y=>
       simp only[eQ,b2];have am:(if hk y.1=17 then (dq 18 y.1.tail).bind fun c=>gV (fun _=>hp) (c.2.length+1) c.2 else some (y.1,.nil))=su y.1:=rfl;rw[am];cases su y.1 with
       | none=>exact⟨rfl,fun C t h=>by cases h⟩
       | some g=>
        simp only[eQ,b2];have bm:(if hk g.1=19 then bP f 1 g.1.tail else some (g.1,.nil))=o2 19 f g.1:=rfl;rw[bm];cases o2 19 f g.1 with
        | none=>exact⟨rfl,fun C t h=>by cases h⟩
        | some z=>refine⟨rfl,fun C t h=>⟨x,s,y,g,z,rfl,rfl,rfl,rfl,rfl,?_⟩⟩;simp only[b2,Option.some.injEq,Prod.mk.injEq] at h;exact h.2.symm
def acD:∀(f g:Nat) (l:e4),l.length<f->l.length<g->eM f l=eM g l:=by
 intro f;induction f with
 | zero=>intro g l h;omega
 | succ f aH=>
  intro g l h1 H;match g,H with
  | g+1,H=>
   rw[eM,eM];cases aa:hP l with
   | none=>rfl
   | some x=>
    simp only[b2];have hle:=GP aa;split
    ·rename_i cE;obtain⟨t0,c3,e,_⟩:=kC cE K;have:x.1.tail.length+1<=x.1.length:=by rw[e];simp
     rw[aH g x.1.tail r r]
    ·rfl
def KO(h:hp l=some x):x.1.length<=l.length:=by unfold hp at h;obtain⟨a,ak,h⟩:=aV h;obtain⟨aq,bb,h⟩:=aV h;obtain⟨e,he,h⟩:=aV h;obtain rfl:=bx h;have:=v7 ak;have:=v7 bb;have:=v7 he;show e.2.length<=_;omega
def acE:∀(f g:Nat) (l:e4),l.length<f->l.length<g->gV (fun _=>hp) f l=gV (fun _=>hp) g l:=by
 intro f;induction f with
 | zero=>intro g l h;omega
 | succ f aH=>
  intro g l h1 H;match g,H with
  | g+1,H=>
   rw[gV,gV];cases aa:hp l with
   | none=>rfl
   | some x=>
    simp only[b2];have hle:=KO aa;split
    ·rename_i cE;obtain⟨t0,c3,e,_⟩:=kC cE K;have:x.1.tail.length+1<=x.1.length:=by rw[e];simp
     rw[aH g x.1.tail r r]
    ·rfl
structure rp (w:World) (b:Nat) (v:Value) (ts:e4) (W:World) (s:Option (e4)) (cs:Array Value):Prop where
 rd:Rd W b v ts s
 fi:w.grownBy W (some b)
 U:W.heap[w.heap.size]?=some (.cells cs 103 (0,0))
def rp.call{fu:Option (e4)}(h:rp w b v ts W s cs)(A:b<w.heap.size)(ag:Rd aU b v ts fu)(R:W.grownBy aU (some b)):rp w b v ts aU fu cs:=⟨ag,h.fi.trans R,nP h.U R r⟩
def rp.set{w:World}{b:Nat}{v:Value}{ts:e4}{W:World}{s:Option (e4)}{cs:Array Value}(h:rp w b v ts W s cs)(i:Nat)(x:Value):rp w b v ts (W.setCell ⟨w.heap.size,i,none⟩ x) s (cs.setIfInBounds i x):=⟨h.rd.set x h.U K K,k1 h.fi ap i x,heap_setCell h.U x⟩
def rp.cell(h:rp w b v ts W s cs){x:Value}(aa:cs[i]?=some x):dp W w.heap.size i=some x:=Z h.U aa
def rp.free(h:rp w b v ts W s cs)(i:Nat):W.frozen? ⟨w.heap.size,i,none⟩=false:=aQ h.U
def rp.len{w:World}{b:Nat}{v:Value}{ts:e4}{W:World}{l:e4}{cs:Array Value}(h:rp w b v ts W (some l) cs):l.length<=ts.length:=h.rd.len
def acF(k f lo hi:Nat)(s:Option (e4))(W:World)(fu:Option (e4))(xs:List Value):Prop:=fu=(s.bind (o2 k f)).map (·.1)/\∀C t,s.bind (o2 k f)=some (C,t)->df W lo hi t xs
def RT(KP:lo<=hi)(h:cM s≠k):acF k f lo hi s W s []:=by
 cases s with
 | none=>exact⟨rfl,fun C t h=>by cases h⟩
 | some l=>
  have e:o2 k f l=some (l,.nil):=by unfold o2;rw[if_neg (by exact h)]
  refine⟨by rw[b2,e];rfl,fun C t au=>?_⟩;rw[b2,e] at au;simp only[Option.some.injEq,Prod.mk.injEq] at au;rw[<-au.2];exact .nil KP
def RU(iS:k≠0)(h:cM s=k):s.bind (o2 k f)=(eJ s).bind (bP f 1):=by obtain⟨l,rfl,X⟩:=wa h iS;obtain⟨t0,c3,rfl,_⟩:=kC X iS;rw[b2];unfold o2;rw[if_pos X];rfl
def acG(lo hi:Nat)(s:Option (e4))(W:World)(fu:Option (e4))(gv:Value)(xs:List Value):Prop:=fu=(s.bind su).map (·.1)/\W.ownsRow lo 101 1 gv xs.length xs/\∀C t,s.bind su=some (C,t)->df W lo hi t xs
def acH(KP:lo<=hi)(h:cM s≠17):acG lo hi s W s (.slice none 0 0) []:=by
 cases s with
 | none=>exact⟨rfl,World.ownsRow_nil _ _ _ _,fun C t h=>by cases h⟩
 | some l=>
  have e:su l=some (l,.nil):=by unfold su;rw[if_neg (by exact h)]
  refine⟨by rw[b2,e];rfl,World.ownsRow_nil _ _ _ _,fun C t au=>?_⟩;rw[b2,e] at au;simp only[Option.some.injEq,Prod.mk.injEq] at au;rw[<-au.2];exact .nil KP
def acI(h:cM s=17)(cS:∀l,s=some l->l.length<=N):s.bind su=(c8 18 (eJ s)).bind (gV (fun _=>hp) (N+1)):=by
 obtain⟨l,rfl,X⟩:=wa h K;obtain⟨t0,c3,rfl,_⟩:=kC X K;have ar:=cS _ rfl;rw[b2];unfold su;rw[if_pos X];show _=(c8 18 (some c3)).bind _;rw[oZ,List.tail_cons];cases ak:dq 18 c3 with
 | none=>rfl
 | some a=>have:=v7 ak;rw[di] at ar;simp only[eQ,b2];exact acE _ _ _ r r
def acJ(cS:∀l,s=some l->l.length<=N):s.bind DF=s.bind (eM (N+1)):=by
 cases s with
 | none=>rfl
 | some l=>rw[b2,b2];have:=cS l rfl;exact acD _ _ _ r r
def cG(h:w.ownsRow base e size v n xs):∃a af,v=.slice a n af:=by
 rcases h.2 with⟨rfl,rfl⟩ | ⟨g,af,ay,rfl,_⟩
 ·exact⟨_,_,rfl⟩
 ·exact⟨_,_,rfl⟩
def size_set(w:World)(a:Addr)(x:Value):(w.setCell a x).heap.size=w.heap.size:=by show(Array.modify _ _ _).size=_;rw[Array.size_modify]
def Rd.GQ(h:Rd w b v ts s):∀l,s=some l->l.length<=ts.length:=fun l X=>by subst X;exact h.len
def acK{α:Type}{o:Option (e4×α)}(h:o.map (·.1)=some l):∃x,o=some x/\x.1=l:=by obtain⟨x,aa,e⟩:=Option.map_eq_some_iff.1 h;exact⟨x,aa,e⟩
def RV(h:c8 k s=some l):∃eR,s=some eR/\l.length+1<=eR.length:=by
 cases s with
 | none=>cases h
 | some eR=>rw[oZ] at h;obtain⟨a,ak,rfl⟩:=Option.map_eq_some_iff.1 h;exact⟨eR,rfl,by have:=v7 ak;omega⟩
def KQ(gA:∀l x,P l=some x->x.1.length<=l.length)(h:(s.bind P).map (·.1)=some l):∃eR,s=some eR/\l.length<=eR.length:=by obtain⟨x,aa,rfl⟩:=acK h;obtain⟨eR,rfl,tC⟩:=aV aa;exact⟨eR,rfl,gA _ _ tC⟩
def acL(h:o2 k f l=some x):x.1.length<=l.length:=by
 unfold o2 at h;split at h
 ·have:=Bp h;rw[List.length_tail] at this;omega
 ·obtain rfl:=bx h;exact ap
def RW(iS:k≠0)(hk:cM s=k)(h:eJ s=some l):∃eR,s=some eR/\l.length+1<=eR.length:=by obtain⟨eR,rfl,X⟩:=wa hk iS;obtain⟨t0,c3,rfl,_⟩:=kC X iS;obtain rfl:c3=l:=bx h;exact⟨_,rfl,by simp⟩
def acM{P:Nat->e4->Option (e4×aL)}(gA:∀n l x,P n l=some x->x.1.length<=l.length):∀(f:Nat) (l:e4) (x:e4×aL),gV P f l=some x->x.1.length<=l.length:=by
 intro f;induction f with
 | zero=>intro l x h;cases h
 | succ f aH=>
  intro l x h;rw[gV] at h;obtain⟨a,ak,h⟩:=aV h;have h1:=gA _ _ _ ak;split at h
  ·obtain⟨y,hy,h⟩:=aV h;obtain rfl:=bx h;have:=aH _ _ hy;rw[List.length_tail] at this;show y.1.length<=_;omega
  ·obtain rfl:=bx h;exact h1
def acN(h:su l=some x):x.1.length<=l.length:=by
 unfold su at h;split at h
 ·obtain⟨a,ak,h⟩:=aV h;have h1:=v7 ak;have H:=acM (fun n l x=>KO) _ _ _ h;rw[List.length_tail] at h1;omega
 ·obtain rfl:=bx h;exact ap
def acO(h:(s.bind DF).map (·.1)=some l):∃eR,s=some eR/\l.length<=eR.length:=by
 have key:∀(f:Nat) (eR:e4) (x:e4×lh),eM f eR=some x->x.1.length<=eR.length:=by
  intro f;induction f with
  | zero=>intro eR x h;cases h
  | succ f aH=>
   intro eR x h;rw[eM] at h;obtain⟨a,ak,h⟩:=aV h;have h1:=GP ak;split at h
   ·obtain⟨y,hy,h⟩:=aV h;obtain rfl:=bx h;have:=aH _ _ hy;rw[List.length_tail] at this;show y.1.length<=_;omega
   ·obtain rfl:=bx h;exact h1
 obtain⟨x,aa,rfl⟩:=Option.map_eq_some_iff.1 h;obtain⟨eR,rfl,tC⟩:=aV aa;exact⟨eR,rfl,key _ _ _ tC⟩
def RX(f:Nat)(b:Nat)(v:Value)(ts:e4)(c:Option (e4))(w:World)(h:Rd w b v ts c)(R:et w)(hs:gz ts)(b5:8<=b)(KI:Room (f+2) 4 c)(mK:∀e7,Room (f+1) 3 e7->kl 274 b v ts (bP (f+1) 1) e7):ey 221 #[M b] w (dU w b v ts (c.bind (bP (f+2) 2))):=by
 obtain⟨s1,h1⟩:∃s,c8 14 c=s:=⟨_,rfl⟩;obtain⟨k2,H⟩:∃s,s1.bind (bP (f+1) 3)=s:=⟨_,rfl⟩;obtain⟨dd,ab⟩:∃s,c8 15 (k2.map (·.1))=s:=⟨_,rfl⟩;obtain⟨mJ,aK⟩:∃s,dd.bind DF=s:=⟨_,rfl⟩;obtain⟨tG,cO⟩:∃s,(mJ.map (·.1)).bind (o2 16 (f+1))=s:=⟨_,rfl⟩;obtain⟨k3,we⟩:∃s,tG.map (·.1)=s:=⟨_,rfl⟩;obtain⟨zq,kD⟩:∃s,k3.bind su=s:=⟨_,rfl⟩;obtain⟨jm,uX⟩:∃s,zq.map (·.1)=s:=⟨_,rfl⟩;obtain⟨Bs,vP⟩:∃s,jm.bind (o2 19 (f+1))=s:=⟨_,rfl⟩;obtain⟨Y,am⟩:=acC (f+1) c h1 H ab aK cO we kD uX vP;unfold dU;rw[<-Y];have hX:=u am;clear Y am;have uY:∀l,s1=some l->8*l.length+4<=f+2-8/\8*l.length+12<=f+2:=fun l X=>by obtain⟨eR,e,hle⟩:=RV (h1.trans X);have:=KI eR e;omega
 have KR:∀l,mJ.map (·.1)=some l->8*l.length+12<=f+2:=fun l X=>by rw[<-aK] at X;obtain⟨xT,bm,DG⟩:=acO X;obtain⟨bT,am,nu⟩:=RV (ab.trans bm);rw[<-H] at am;obtain⟨l1,Y,kz⟩:=KQ (fun _ _=>Bp) am;have:=(uY l1 Y).2;omega
 have RY:∀l,k3=some l->8*l.length+12<=f+2:=fun l X=>by rw[<-we,<-cO] at X;obtain⟨s9,hq,acP⟩:=KQ (fun _ _=>acL) X;have:=KR s9 hq;omega
 have RZ:∀l,jm=some l->8*l.length+12<=f+2:=fun l X=>by rw[<-uX,<-kD] at X;obtain⟨acQ,ol,arv⟩:=KQ (fun _ _=>acN) X;have:=RY acQ ol;omega
 have cY:=h.lt;have KS:=acJ (s:=dd) (N:=ts.length);rw[aK] at KS;have pI:s1.bind (gV (fun n=>bP n 0) (f+1))=k2:=by rw[<-H];congr 1;funext l;rw[Zx]
 have R0:rp w b v ts (w.alloc (.cells #[.slice none 0 0,.slice none 0 0,.pointer none,.slice none 0 0,.pointer none] 103)) c #[.slice none 0 0,.slice none 0 0,.pointer none,.slice none 0 0,.pointer none]:=⟨h.alloc _,World.grownBy_alloc _ _ _,bH w _⟩;have acR:=u KR;have acS:=u RZ;have rq:=u cO;have KT:=u we;have xU:=u kD;have KU:=u uX;have GR:=u vP;clear KR RY RZ cO we kD uX vP H;go_enter func221,ntmps221;go_wp2_with fail;refine(ll 14 14 rfl K b v ts c s1 _ rfl h1 _ _ (by simp) R0.rd hs.1).mono ?_;rintro e J ⟨rfl,ft,dv⟩;have xV:=R0.call cY ft dv;have b3:w.heap.size+1<=J.heap.size:=by have:=dv.size;simpa using this
 go_wp2_with fail;refine(list_fn _ (.inl rfl) (fun n=>bP n 0) 8 1 f K b v ts s1 J xV.rd (R.grown xV.fi b5) hs b5 (fun n l x=>Bp) (fun n e7 _ k4=>Rz n b v ts hs b5 e7 k4) (fun C ag=>by have:=(uY C ag).2;omega)).mono ?_;rw[pI];rintro e S ⟨ev,es,rfl,ej,dW,bC,hV⟩;obtain⟨o3,DH,rfl⟩:=cG ej;have zr:=xV.call cY dW bC;have z2:=bC.size;have arw:=zr.cell (i:=0) rfl;have arx:=zr.free 0;have R1:=zr.set 0 (.slice o3 es.length DH);go_wp2_with fail;refine(ll 15 15 rfl K b v ts _ dd _ rfl ab _ _ (size_set _ _ _) R1.rd hs.1).mono ?_;rintro e aA ⟨rfl,gY,eC⟩;have R2:=R1.call cY gY eC;have z3:=eC.size;rw[size_set] at z3;have wg:=KS gY.GQ;go_wp2_with fail;refine(acA ts.length b v ts dd aA R2.rd hs gY.GQ).mono ?_;rw[<-wg];rintro e bI ⟨sv,Bt,zt,rfl,KV,ns,gZ,sn⟩
 obtain⟨eD,hJ,rfl⟩:=cG KV;have KW:=R2.call cY ns gZ;have z4:=gZ.size;have ary:=KW.cell (i:=1) rfl;have arz:=KW.free 1;have R3:=KW.set 1 (.slice eD Bt hJ);clear KS wg h1 pI ab aK;have R4:=u hV;have R5:=u sn;clear hV sn;go_wp2_with fail;generalize zu:bI.setCell ⟨w.heap.size,1,none⟩ (.slice eD Bt hJ)=lU at *;have arA:lU.heap.size=bI.heap.size:=by rw[<-zu,size_set]
 have R6:iB (w.heap.size+1) S lU:=by have bq:iB (w.heap.size+1) S (S.setCell ⟨w.heap.size,0,none⟩ (.slice o3 es.length DH)):=it _ _ r;have a2:=bq.trans (gW eC r) (by rw[size_set];exact ap);have a3:=a2.trans (gW gZ r) r;have a4:=a3.trans (it bI (.slice eD Bt hJ) (o:=1) (show w.heap.size<w.heap.size+1 by omega)) r;rw[zu] at a4;exact a4
 have R7:iB (w.heap.size+1) bI lU:=by have a4:=it bI (.slice eD Bt hJ) (o:=1) (show w.heap.size<w.heap.size+1 by omega);rw[zu] at a4;exact a4
 clear zu;refine(pE b v ts _ 16 lU R3.rd hs.1).mono ?_;have bw:∃bB,decide (cM (mJ.map (·.1))=16)=bB:=⟨_,rfl⟩;obtain⟨bB,bw⟩:=bw;rw[bw];rintro e bh ⟨rfl,oY,fh⟩;have xW:=R3.call cY oY fh;have z5:=fh.size;have KX:iB (w.heap.size+1) lU bh:=gW fh r;go_upto_if 27 with fail;go_cut [] (fun wr=>∃(ws:List Value),rp w b v ts wr k3 #[.slice o3 es.length DH,.slice eD Bt hJ,jj ws,.slice none 0 0,.pointer none]/\iB (w.heap.size+1) lU wr/\lU.heap.size<=wr.heap.size/\∀y,tG=some y->df wr lU.heap.size wr.heap.size y.2 ws);case first=>
  cases bB
  ·have cy:cM (mJ.map (·.1))≠16:=by simpa using bw
   have b8:=RT (f:=f+1) (lo:=lU.heap.size) (hi:=bh.heap.size) (W:=bh) z5 cy;have ak:gL 16 (mJ.map (·.1))=mJ.map (·.1):=by unfold gL;rw[if_neg cy]
   rw[ak] at xW;have cO:=rq.d;have we:=KT.d;have ol:k3=mJ.map (·.1):=by rw[<-we,<-cO];exact b8.1.symm
   rw[<-ol] at xW;have DC:∀y,tG=some y->df bh lU.heap.size bh.heap.size y.2 []:=fun y hy=>b8.2 y.1 y.2 (by rw[cO];exact hy);clear bw b8 ak ol cO we cy;go_wp2_with fail;go_meet;case rel=>exact⟨[],xW,KX,z5,DC⟩
  ·have rr:cM (mJ.map (·.1))=16:=by simpa using bw
   have ak:gL 16 (mJ.map (·.1))=eJ (mJ.map (·.1)):=by unfold gL;rw[if_pos rr]
   rw[ak] at xW;have zv:=RU (f:=f+1) K rr;rw[rq.d] at zv;have R8:Room (f+1) 3 (eJ (mJ.map (·.1))):=fun l X=>by obtain⟨eR,c7,rn⟩:=RW K rr X;have:=acR.d eR c7;omega
   have wi:=mK _ R8 bh xW.rd (R.grown xW.fi b5);rw[<-zv] at wi;clear bw ak rr R8 zv;go_wp2_with fail;refine wi.mono ?_;rintro e cw ⟨KY,rfl,acT,rt,GS⟩;have xX:=xW.call cY acT rt;rw[KT.d] at xX;have arB:=xX.cell (i:=2) rfl;have arC:=xX.free 2;have acU:=xX.set 2 (M KY);have R9:=rt.size;have Bu:=((KX.trans (gW rt r) z5).trans (it cw (M KY) (o:=2) (show w.heap.size<w.heap.size+1 by omega)) r);clear wi;go_wp2_with fail;go_meet;case rel=>refine⟨[M KY],acU,Bu,by rw[size_set];omega,fun y hy=>?_⟩;rw[size_set];exact((GS y.1 y.2 hy).low z5).kept (it cw _ r)
 case rest=>
  obtain⟨ws,xX,Bu,R9,GS⟩:=hcut;clear KX z5 xW fh oY bw rq KT;go_wp2_with fail;refine(pE b v ts _ 17 wc xX.rd hs.1).mono ?_;have bw:∃bB,decide (cM k3=17)=bB:=⟨_,rfl⟩;obtain⟨acV,bw⟩:=bw;rw[bw];rintro e mL ⟨rfl,DI,GT⟩;have zw:=xX.call cY DI GT;have DJ:=GT.size;have KZ:iB (w.heap.size+1) wc mL:=gW GT r;generalize arD:wc=tH at *;go_upto_if 34 with fail;go_cut [] (fun wr=>∃(gv:Value) (gs:List Value),rp w b v ts wr jm #[.slice o3 es.length DH,.slice eD Bt hJ,jj ws,gv,.pointer none]/\iB (w.heap.size+1) tH wr/\tH.heap.size<=wr.heap.size/\wr.ownsRow (w.heap.size+1) 101 1 gv gs.length gs/\∀y,zq=some y->df wr tH.heap.size wr.heap.size y.2 gs);case first=>
   cases acV
   ·have cy:cM k3≠17:=by simpa using bw
    have b8:=acH (lo:=tH.heap.size) (hi:=mL.heap.size) (W:=mL) DJ cy;have ak:gL 17 k3=k3:=by unfold gL;rw[if_neg cy]
    rw[ak] at zw;have kD:=xU.d;have uX:=KU.d;have wj:jm=k3:=by rw[<-uX,<-kD];exact b8.1.symm
    have acW:∀y,zq=some y->df mL tH.heap.size mL.heap.size y.2 []:=fun y hy=>b8.2.2 y.1 y.2 (by rw[kD];exact hy);rw[<-wj] at zw;clear bw b8 ak wj kD uX cy;go_wp2_with fail;go_meet;case rel=>exact⟨.slice none 0 0,[],zw,KZ,DJ,World.ownsRow_nil _ _ _ _,acW⟩
   ·have rr:cM k3=17:=by simpa using bw
    have ak:gL 17 k3=eJ k3:=by unfold gL;rw[if_pos rr]
    rw[ak] at zw;have xY:=acI (N:=ts.length) rr xX.rd.GQ;rw[xU.d] at xY;obtain⟨Sa,K0⟩:∃s,c8 18 (eJ k3)=s:=⟨_,rfl⟩;rw[K0] at xY;have acX:=u xY;clear bw ak rr xY;go_wp2_with fail;refine(ll 18 18 rfl K b v ts _ Sa _ rfl K0 mL _ (by simp) zw.rd hs.1).mono ?_;rintro e zx ⟨rfl,Sb,K1⟩;have DK:=zw.call cY Sb K1;have acY:=K1.size;go_wp2_with fail;refine(list_fn _ (.inr rfl) (fun _=>hp) 1 0 ts.length K b v ts Sa zx DK.rd (R.grown DK.fi b5) hs b5 (fun n l x=>KO) (fun n e7 _ _ w' cC _=>Rk b v ts e7 w' cC hs.1) (fun C ag=>by have:=Sb.GQ C ag;omega)).mono ?_;rw[<-acX.d];rintro e uZ ⟨gv,gs,rfl,Sc,acZ,K2,ac0⟩;obtain⟨bf,o4,rfl⟩:=cG Sc;have GU:=DK.call cY acZ K2;rw[KU.d] at GU;have z9:=K2.size;have arE:=GU.cell (i:=3) rfl;have arF:=GU.free 3
    have ac1:=GU.set 3 (.slice bf gs.length o4);have aY:=DK.fi.size;have arG:w.heap.size<zx.heap.size:=(br DK.U).1;have ac2:=(KZ.trans (gW K1 r) DJ).trans (gW K2 r) r;have Bv:=it uZ (.slice bf gs.length o4) (o:=3) (show w.heap.size<w.heap.size+1 by omega);have ac3:=ac2.trans Bv r;clear K0;go_wp2_with fail;go_meet;case rel=>exact⟨.slice bf gs.length o4,gs,ac1,ac3,by rw[size_set];omega,Bv.row (ei r Sc),fun y hy=>by rw[size_set];exact((ac0 y.1 y.2 hy).low r).kept (Bv.mono r)⟩
  case rest=>
   obtain⟨gv,gs,Sd,Bw,arH,Se,Sf⟩:=hcut;clear KZ DJ zw GT DI bw xU KU;go_wp2_with fail;refine(pE b v ts _ 19 wc Sd.rd hs.1).mono ?_;have bw:∃bB,decide (cM jm=19)=bB:=⟨_,rfl⟩;obtain⟨ac4,bw⟩:=bw;rw[bw];rintro e tI ⟨rfl,ac5,K3⟩;have tJ:=Sd.call cY ac5 K3;have K4:=K3.size;have Bx:iB (w.heap.size+1) wc tI:=gW K3 r;cases ac4
   ·have cy:cM jm≠19:=by simpa using bw
    have b8:=RT (f:=f+1) (lo:=wc.heap.size) (hi:=tI.heap.size) (W:=tI) K4 cy;have ak:gL 19 jm=jm:=by unfold gL;rw[if_neg cy]
    rw[ak] at tJ;have vP:=GR.d;have sg:jm=Bs.map (·.1):=by rw[<-vP];exact b8.1
    have ac6:∀z,Bs=some z->df tI wc.heap.size tI.heap.size z.2 []:=fun z aY=>b8.2 z.1 z.2 (by rw[vP];exact aY);rw[sg] at tJ;clear bw b8 ak vP cy;go_wp2_with fail;go_ret;have eU:=fun C t au=>hX.d C t au;refine⟨w.heap.size,rfl,?_,tJ.fi,fun C t au=>?_⟩
    ·exact tJ.rd
    obtain⟨x,s,y,g,z,aa,hy,zv,xY,zy,rfl⟩:=eU C t au;obtain⟨K5,zj⟩:=R5.d s.1 s.2 hy;subst K5 zj;have aB:iB (w.heap.size+1) S tI:=((R6.trans Bu r).trans Bw r).trans Bx r;have K6:iB (w.heap.size+1) bI tI:=((R7.trans Bu r).trans Bw r).trans Bx r;have K7:iB (w.heap.size+1) tH tI:=Bw.trans Bx r;have cX:=aB.row (ei (by omega:w.heap.size+1<=J.heap.size) ej);have cA:=K6.row (ei (by omega:w.heap.size+1<=aA.heap.size) KV);have AV:=Bx.row Se;have t1:=((R4.d x.1 x.2 aa).wide (by omega:w.heap.size+1<=J.heap.size) (by omega:S.heap.size<=lU.heap.size)).kept aB;have t2:=(GS y zv).kept (K7.mono r);have t3:=(Sf g xY).kept (Bx.mono r)
    exact .query (l1:=w.heap.size+1) (h1:=tI.heap.size) ap (br tJ.U).1 (Nat.le_succ _) ap (.inl (Nat.lt_succ_self _)) tJ.U (ei (Nat.le_succ _) cX) (ei (Nat.le_succ _) cA) (ei (Nat.le_succ _) AV) t1 t2 t3 (ac6 z zy)
   ·have rr:cM jm=19:=by simpa using bw
    have ak:gL 19 jm=eJ jm:=by unfold gL;rw[if_pos rr]
    rw[ak] at tJ;have zy:=RU (f:=f+1) K rr;rw[GR.d] at zy;have Sg:Room (f+1) 3 (eJ jm):=fun l X=>by obtain⟨eR,c7,rn⟩:=RW K rr X;have:=acS.d eR c7;omega
    have wi:=mK _ Sg tI tJ.rd (R.grown tJ.fi b5);rw[<-zy] at wi;clear bw ak rr Sg zy;go_wp2_with fail;refine wi.mono ?_;rintro e DL ⟨By,rfl,ac7,K8,ac8⟩;have K9:=tJ.call cY ac7 K8;have arI:=K9.cell (i:=4) rfl;have arJ:=K9.free 4;have La:=K9.set 4 (M By);have z12:=K8.size;have arK:w.heap.size<tI.heap.size:=(br tJ.U).1;have Bv:=it DL (M By) (o:=4) (show w.heap.size<w.heap.size+1 by omega);have DM:=((Bx.trans (gW K8 r) K4).trans Bv r);clear wi;go_wp2_with fail;go_ret;have eU:=fun C t au=>hX.d C t au;refine⟨w.heap.size,rfl,?_,La.fi,fun C t au=>?_⟩
    ·exact La.rd
    obtain⟨x,s,y,g,z,aa,hy,zv,xY,zy,rfl⟩:=eU C t au;obtain⟨K5,zj⟩:=R5.d s.1 s.2 hy;subst K5 zj;have aB:iB (w.heap.size+1) S (DL.setCell ⟨w.heap.size,4,none⟩ (M By)):=((R6.trans Bu r).trans Bw r).trans DM r;have K6:iB (w.heap.size+1) bI (DL.setCell ⟨w.heap.size,4,none⟩ (M By)):=((R7.trans Bu r).trans Bw r).trans DM r;have K7:iB (w.heap.size+1) tH (DL.setCell ⟨w.heap.size,4,none⟩ (M By)):=Bw.trans DM r;have cX:=aB.row (ei (by omega:w.heap.size+1<=J.heap.size) ej);have cA:=K6.row (ei (by omega:w.heap.size+1<=aA.heap.size) KV);have AV:=DM.row Se;have t1:=((R4.d x.1 x.2 aa).wide (by omega:w.heap.size+1<=J.heap.size) (by omega:S.heap.size<=lU.heap.size)).kept aB;have t2:=(GS y zv).kept (K7.mono r);have t3:=(Sf g xY).kept (DM.mono r);rw[size_set]
    exact .query (l1:=w.heap.size+1) (h1:=DL.heap.size) (ev:=.slice o3 es.length DH) (sv:=.slice eD s.2.length hJ) (gv:=gv) (ws:=ws) (hs:=[M By]) ap r (Nat.le_succ _) ap (.inl (Nat.lt_succ_self _)) La.U (ei (Nat.le_succ _) cX) (ei (Nat.le_succ _) cA) (ei (Nat.le_succ _) AV) t1 t2 t3 (((ac8 z.1 z.2 zy).low K4).kept (Bv.mono r))
def Lb(P:e4->Option (e4×aL))(b:Nat)(v:Value)(ts:e4)(hs:gz ts)(b5:8<=b):kl 274 b v ts P none:=fun w h R=>
 RD b v ts none 0 rfl none w h hs (fun W aO he=>by
  have o1:et W:=R.kept (by rw[he];exact ap) (fun k _=>by rw[he]);exact RC P b v ts none W aO o1 hs b5 (GJ P b v ts hs) (by show cM none≠23;rw[show cM none=0 from rfl];decide) (by
   have e:eJ (eV [8,9,10] (((none:Option (e4)).bind P).map (·.1)))=none:=by show eJ (eV [8,9,10] none)=none;rw[zf];rfl
   rw[e];exact GJ P b v ts hs)) K K K
def Lc(P:e4->Option (e4×aL))(b:Nat)(v:Value)(ts:e4)(hs:gz ts)(b5:8<=b):kl 221 b v ts P none:=fun w h R=>
 RX 0 b v ts none w h R hs b5 (fun C e=>by cases e) (fun e7 ag=>by
  cases e7 with
  | none=>exact Lb _ b v ts hs b5
  | some l=>have:=ag l rfl;omega)
def ac9:∀f,(∀(b:Nat) (v:Value) (ts:e4),gz ts->8<=b->∀c,Room f 3 c->kl 274 b v ts (bP f 1) c)/\(∀(b:Nat) (v:Value) (ts:e4),gz ts->8<=b->∀c,Room f 4 c->kl 221 b v ts (bP f 2) c):=by
 intro f;induction f with
 | zero=>
  refine⟨fun b v ts hs b5 c ag=>?_,fun b v ts hs b5 c ag=>?_⟩
  ·cases c with
   | none=>exact Lb _ b v ts hs b5
   | some l=>have:=ag l rfl;omega
  ·cases c with
   | none=>exact Lc _ b v ts hs b5
   | some l=>have:=ag l rfl;omega
 | succ f aH=>
  refine⟨fun b v ts hs b5 c ag=>?_,fun b v ts hs b5 c ag=>?_⟩
  ·cases c with
   | none=>exact Lb _ b v ts hs b5
   | some l=>
    intro w h R;have tw:=ag l rfl;rw[b2];by_cases tA:hk l=22
    ·rw[ab7 tA];obtain⟨t,C,rfl,_⟩:=kC tA K;exact acd (bP f 1) b v ts (t::C) w h R hs b5 tA (aH.1 b v ts hs b5 _ (fun lK e=>by obtain rfl:=bx e;rw[di] at tw;show 8*C.length+3<=f;omega))
    by_cases ro:hk l=25
    ·rw[ab8 ro];refine ace b v ts (some l) 25 ro _ w h hs (fun W aO he=>?_) rfl;have o1:et W:=R.kept (by rw[he];exact ap) (fun k _=>by rw[he]);obtain⟨t,C,rfl,_⟩:=kC ro K;exact ab6 (bP f 2) b v ts (t::C) W aO o1 hs b5 ro (aH.2 b v ts hs b5 _ (Rw (by rw[di] at tw;show 8*C.length+4<=f+8;omega)))
    by_cases aK:hk l=4/\oS 0 (l.map dD)=true
    ·rw[aca aK.1 aK.2];obtain⟨aK,ct⟩:=aK;obtain⟨t,C,rfl,zl⟩:=kC aK K;have kz:8*C.length+3<=f:=by rw[di] at tw;omega
     have dG:c8 4 (some (t::C))=some C:=by rw[oZ,dq,if_pos zl];rfl
     refine acg (bP f 1) b v ts (t::C) w h hs R b5 aK ct ?_ ?_
     ·rw[dG];exact aH.1 b v ts hs b5 _ (fun lK e=>by obtain rfl:=bx e;exact kz)
     ·refine aH.1 b v ts hs b5 _ (fun lK e=>?_);rw[dG,b2,(Bo [20,21] K _).1] at e;cases aa:bP f 1 C with
      | none=>rw[aa] at e;cases e
      | some x=>
       rw[aa] at e;have hle:=Bp aa;simp only[eQ,b2] at e;split at e
       ·obtain rfl:=bx e;rw[List.length_tail];omega
       ·cases e
    ·rw[acb tA ro aK];have eU:=Rz f b v ts hs b5;have GV:∀W:World,Rd W b v ts (some l)->et W->ey 292 #[M b] W (dU W b v ts (uW (bP f 0) l)):=by
      intro W aO o1;have aj:kl 271 b v ts (bP f 0) (some l):=eU _ (fun C e=>by obtain rfl:=bx e;omega);by_cases qx:cM (((some l).bind (bP f 0)).map (·.1))=23
      ·exact ab4 (bP f 0) b v ts (some l) W aO o1 hs aj qx
      ·refine RC (bP f 0) b v ts (some l) W aO o1 hs b5 aj qx (eU _ (fun C e=>?_));rw[b2,(Bo [8,9,10] K _).1] at e;cases aa:bP f 0 l with
       | none=>rw[aa] at e;cases e
       | some x=>
        rw[aa] at e;have hle:=Bp aa;simp only[eQ,b2] at e;split at e
        ·obtain rfl:=bx e;rw[List.length_tail];omega
        ·cases e
     by_cases sw:hk l=4
     ·have b8:oS 0 (l.map dD)=false:=by
       cases e:oS 0 (l.map dD)
       ·rfl
       ·exact absurd ⟨sw,e⟩ aK
      exact acf b v ts l _ w h hs sw b8 (fun W aO bw=>GV W aO (R.below bw R.js))
     ·exact RD b v ts (some l) (hk l) rfl _ w h hs (fun W aO he=>GV W aO (R.kept (by rw[he];exact ap) (fun k _=>by rw[he]))) tA ro sw
  ·cases c with
   | none=>exact Lc _ b v ts hs b5
   | some l=>have tw:=ag l rfl;obtain⟨f,rfl⟩:∃g,f=g+1:=⟨f-1,r⟩;intro w h R;exact RX f b v ts (some l) w h R hs b5 ag (aH.1 b v ts hs b5)
