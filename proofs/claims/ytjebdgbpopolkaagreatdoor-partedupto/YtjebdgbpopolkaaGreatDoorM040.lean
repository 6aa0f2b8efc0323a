import Derived.Test.YtjebdgbpopolkaaGreatDoorM007
set_option maxHeartbeats 0
set_option maxRecDepth 100000
set_option linter.all false
namespace Go.Proofs.YtjebdgbpopolkaaGreatDoor
open Tryz
open Go.RowKit Go.Shelf
open bS
def qZ(c:Int)(n:Nat):Nat:=((if c<0 then -(c+1) else c)%(n:Int)).toNat
def F7{c:Int}{n:Nat}(ar:0<n):((if c<0 then -(c+1) else c)%(n:Int))=(qZ c n:Int)/\qZ c n<n:=by unfold qZ;generalize (if c<0 then -(c+1) else c)=a;have h1:=Int.emod_nonneg a (b:=(n:Int)) r;have H:=Int.emod_lt_of_pos a (show(0:Int)<(n:Int) by omega);omega
def X7(c:Int)(n:Nat)(w:World)(aw : -9223372036854775808<=c)(h1:c<=9223372036854775807)(ar:0<n)(dA:n<=2000000):ey 9 #[q c,q (n:Int)] w (ov w (q (qZ c n:Int))):=by
 have alX:((n:Int)==0)=false:=cV.2 r;have zJ:(0:Int)<(n:Int):=r;have aj:=(F7 (c:=c) ar).1;by_cases ai:c<0
 ·have Y:IntKind.i64.wrap (c+1)=c+1:=mC;have am:IntKind.i64.wrap (-(c+1)) = -(c+1):=mC;rw[if_pos ai] at aj;obtain⟨a,ak,FO⟩:∃a:Int,0<=a/\-(c+1)=a:=⟨_,r,rfl⟩;rw[FO] at aj;have bK:=u aj;have atu:a<=9223372036854775807:=r;generalize qZ c n=k at *;clear aj;go_enter func9,ntmps9;go_wp2;go_ret;exact⟨congrArg (fun i=>Ending.returned (q i)) bK.out,rfl⟩
 ·have uV:0<=c:=r;rw[if_neg ai] at aj;have bK:=u aj;generalize qZ c n=k at *;clear aj ai;go_enter func9,ntmps9;go_wp2;go_ret;exact⟨congrArg (fun i=>Ending.returned (q i)) bK.out,rfl⟩
def JE(N n:Nat)(s:e6):Prop:=kn N=(if n<10 then [] else kn (n/10))++s.data.toList/\n<=N
def AS(n:Nat):e6:=⟨#[UInt8.ofNat (48+n%10)]⟩
def X8(n:Nat)(m:Int)(hm:m=(n:Int)%10)(W:World):(convert 72 9 (.slice (some ⟨W.heap.size,0,none⟩) 1 1)).run prog (W.alloc (.cells #[.int .u8 (48+m)] 5))=.ok (.string (AS n)) (W.alloc (.cells #[.int .u8 (48+m)] 5)):=by
 have h:=run_convert_bytes_back (P:=prog) (W.alloc (.cells #[.int .u8 (48+m)] 5)) 72 9 5 ⟨W.heap.size,0,none⟩ 1 [UInt8.ofNat (48+n%10)] underlying72 underlying5 underlying9 (fun j aS=>by
  have lv:j<1:=aS;obtain rfl:j=0:=r;rw[Addr.add_lit,ax1];refine(Z (bH W _) (i:=0) rfl).trans ?_;have:n%10<10:=Nat.mod_lt _ K;have e:(48:Int)+m=((UInt8.ofNat (48+n%10)).toNat:Int):=by rw[UInt8.toNat_ofNat',hm];omega
  show some (Value.int .u8 (48+m))=some (Value.int .u8 ((UInt8.ofNat (48+n%10)).toNat:Int));rw[e])
 exact h
def X9(N:Nat)(cS:N<=9223372036854775807)(w:World):ey 8 #[q (N:Int)] w (gU w (.string (a7 (kn N)))):=by
 have aw:¬(N:Int)<0:=r;have xy:(0:Int)<=(N:Int):=r;have uq:=X8 N ((N:Int)%10) rfl w;have my:Hid (eB w (w.alloc (.cells #[.int .u8 (48+(N:Int)%10)] 5))):=u cT;have PD:Hid (JE N N (AS N)):=u ⟨by
  unfold AS;by_cases pe:N<10
  ·rw[if_pos pe,Ij pe,Nat.mod_eq_of_lt pe];rfl
  ·rw[if_neg pe,Nh r],ap⟩
 have fk:Hid (∀n s,JE N n s->s.size<=30):=u (fun n s h=>by
  have h1:=Ni 20 N r;have H:=congrArg List.length h.1;rw[cu] at H;have ab:s.data.toList.length=s.size:=by rw[ax7];rfl
  omega)
 go_enter func8,ntmps8;go_upto_region 6 with fail;go_loopg [0,3] (N+1) (fun U Ya sv wr=>∃(n:Nat) (s:e6),Ya=q (n:Int)/\sv=.string s/\Hid (JE N n s)/\Hid (eB w wr)/\n<U);case atStart=>exact⟨N,_,rfl,rfl,PD,my,r⟩
 case round=>
  obtain⟨n,s,rfl,rfl,bb,bc,ae⟩:=hrel;have atv:=bb.out.2;by_cases pe:10<=n
  ·have aoO:(10:Int)<=(n:Int):=r;have atw:=X8 (n/10) ((n:Int)/10%10) r wr;have hs:=fk.out n s bb.out;have bn:Hid (JE N (n/10) (AS (n/10)++s)):=u ⟨by
    unfold AS;rw[bb.out.1,if_neg r,ByteArray.data_append,Array.toList_append];by_cases h:n/10<10
    ·rw[if_pos h,Ij h,Nat.mod_eq_of_lt h];rfl
    ·rw[if_neg h,Nh (n:=n/10) r];simp,r⟩
   have r1:Hid (eB w (wr.alloc (.cells #[.int .u8 (48+(n:Int)/10%10)] 5))):=u (bc.out.alloc bc.out.size _);have nc:(AS (n/10)).size=1:=rfl;have s1:¬9223372036854775807<(AS (n/10)).size+s.size:=r;clear uq my PD bb bc;have ch:=u ae;clear ae nc;go_wp2_with fail;have ae:=ch.out;go_roundg (gk-1);case measure=>omega
   case rel=>exact⟨n/10,_,by go_num,rfl,bn,r1,r⟩
  ·have aoO:(n:Int)<10:=r;have bK:Hid (a7 (kn N)=s):=u (by rw[bb.out.1,if_pos r,List.nil_append];rfl);clear uq my PD bb ae;go_wp2_with fail;go_ret;exact⟨by rw[bK.out];rfl,bc.out⟩
def JF(n:Int)(w:World)(h1 : -9223372036854775808<n)(H:n<=9223372036854775807):ey 8 #[q n] w (gU w (.string (im n))):=by
 by_cases aw:n<0
 ·obtain⟨m,rfl⟩:∃m:Nat,n = -(m:Int):=⟨n.natAbs,r⟩;have Y:IntKind.i64.wrap (-(-(m:Int)))=(m:Int):=by rw[IntKind.wrap_i64];omega
  have atx:(m:Int)<=9223372036854775807:=r;have Gt:(0:Int)<=(m:Int):=r;have aty:IntKind.i64.wrap (m:Int)=(m:Int):=by rw[IntKind.wrap_i64];omega
  have atz:wrap64 (m:Int)=(m:Int):=by first | (unfold wrap64;omega) | (simp only[wrap64];omega)
  have am:((-(m:Int))==(m:Int))=false:=by rw[cV];omega
  have bm:¬(-(m:Int))=(m:Int):=r;have aN:=u (X9 m r w);have hs:(a7 (kn m)).size<=30:=by have:=Ik (m:Int) r r;rwa [UK m] at this
  have s1:¬9223372036854775807<1+(a7 (kn m)).size:=r;have bK:Hid (im (-(m:Int))=⟨#[45]⟩++a7 (kn m)):=u (by
   unfold im;rw[if_pos aw,show(-(m:Int)).natAbs=m by omega];apply ByteArray.ext;rw[ByteArray.data_append];simp[a7])
  generalize a7 (kn m)=T at *;clear h1 H hs;go_enter func8,ntmps8;go_wp2_with (go_at_call 8;refine aN.out.mono ?_;rintro e w' ⟨rfl,A⟩);go_ret;exact⟨by rw[bK.out];rfl,A⟩
 ·obtain⟨m,rfl⟩:∃m:Nat,n=(m:Int):=⟨n.toNat,r⟩;rw[UK m];exact X9 m r w
def JG:e6:=⟨#[110,117,108,108]⟩
def nk(c:Int):e6:=if 10<=qZ c 12 then JG else im ((qZ c 12:Int)-3)
def nl(c:Int):e6:=if qZ c 6=5 then JG else a7 (39::(([97,98,99,100,101]:List UInt8).take (qZ c 6)++[39]))
def aoP(c:Int)(w:World)(aw : -9223372036854775808<=c)(h1:c<=9223372036854775807):ey 16 #[q c] w (gU w (.string (nk c))):=by
 have lm:=u (X7 c 12 w aw h1 K K);have aD:=(F7 (c:=c) (n:=12) K).2;unfold nk;generalize qZ c 12=k at *;clear aw h1;by_cases h:10<=k
 ·rw[if_pos h];have cC:(10:Int)<=(k:Int):=r;go_enter func16,ntmps16;go_wp2_with (go_at_call 9;refine lm.out.mono ?_;rintro e w' ⟨rfl,rfl⟩);go_ret;exact⟨rfl,Below.refl _ _⟩
 ·rw[if_neg h];have cC:(k:Int)<10:=r;have Y:IntKind.i64.wrap ((k:Int)-3)=(k:Int)-3:=mC;have ht:=u (JF ((k:Int)-3) w r r);generalize im ((k:Int)-3)=T at *;go_enter func16,ntmps16;go_wp2_with (first | (go_at_call 8;refine ht.out.mono ?_;rintro e S ⟨rfl,A⟩) | (go_at_call 9;refine lm.out.mono ?_;rintro e w' ⟨rfl,rfl⟩));go_ret;exact⟨rfl,A⟩
def aoQ(c:Int)(w:World)(aw : -9223372036854775808<=c)(h1:c<=9223372036854775807):ey 17 #[q c] w (gU w (.string (nl c))):=by
 have lm:=u (X7 c 6 w aw h1 K K);have aD:=(F7 (c:=c) (n:=6) K).2;unfold nl;generalize qZ c 6=k at *;clear aw h1;have hk:k=0\/k=1\/k=2\/k=3\/k=4\/k=5:=r;clear aD;rcases hk with rfl | rfl | rfl | rfl | rfl | rfl
 all_goals
  go_enter func17,ntmps17;go_wp2_with (go_at_call 9;refine lm.out.mono ?_;rintro e w' ⟨rfl,rfl⟩);go_ret;exact⟨rfl,Below.refl _ _⟩
