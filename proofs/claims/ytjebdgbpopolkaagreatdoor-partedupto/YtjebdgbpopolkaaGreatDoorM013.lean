import Derived.Test.YtjebdgbpopolkaaGreatDoorM010
import Derived.Test.YtjebdgbpopolkaaGreatDoorM012
set_option maxHeartbeats 0
set_option maxRecDepth 100000
set_option linter.all false
namespace Go.Proofs.YtjebdgbpopolkaaGreatDoor
open Tryz
open Go.RowKit
open bS
def mO(l:List (e6×Nat)):List Value:=l.flatMap fun c=>[.string c.1,q (c.2:Int)]
def ad8(l:List (e6×Nat))(c:e6×Nat):mO (l++[c])=mO l++[.string c.1,q (c.2:Int)]:=by simp[mO]
def ad9(sep:e6):∀(k:Nat) (s p:e6),p∈Lib.splitB sep 0 k s->p.size<=s.size:=by
 intro k;induction k with
 | zero=>intro s p h;obtain rfl:=ic h;exact ap
 | succ k aH=>
  intro s p h;unfold Lib.splitB at h;split at h
  ·obtain rfl:=ic h;exact ap
  ·rcases List.mem_cons.1 h with rfl | h
   ·rw[ByteArray.size_extract];omega
   ·have:=aH _ _ h;rw[ByteArray.size_extract] at this;omega
def aea(bE:e4)(N:Nat)(w:World)(j:Nat)(aS:j<bE.length):(w.alloc (.cells (Lib.cellsOf bE N) 9)).cell? ⟨w.heap.size,j,none⟩=some (.string bE[j]):=by
 have h:=bH w (.cells (Lib.cellsOf bE N) 9);have ai:(Lib.cellsOf bE N)[j]?=some (.string bE[j]):=by unfold Lib.cellsOf;rw[List.getElem?_toArray,List.getElem?_append_left (by simpa using aS),List.getElem?_map,fC aS];rfl
 exact Z h ai
def aeb:(prog.info? 130).map (fun i=>(i.zero,i.size,i.bytes))=some (some (.agg #[.string ⟨#[]⟩,q 0]),2,24):=ax
def DU(s:e6)(w:World)(e:Ending)(w':World):Prop:=(match mE s.data.toList with
 | none=>e=.returned (.tuple #[.slice none 0 0,.bool false])
 | some l=>∃v,e=.returned (.tuple #[v,.bool true])/\w'.ownsRow w.heap.size 130 2 v l.length (mO l))/\eB w w'
def aec(s:e6):mE s.data.toList=if 4<(Lib.splitB ⟨#[44]⟩ 0 (min 5 (s.size+1)-1) s).length then none else iq si ((Lib.splitB ⟨#[44]⟩ 0 (min 5 (s.size+1)-1) s).map (·.data.toList)):=by
 have e:=Lib.splitB_data ⟨#[44]⟩ 0 (min 5 (s.size+1)-1) s;have awo:=congrArg List.length e;rw[cZ] at awo;obtain⟨h1,H⟩:=aaV 44 4 s.data.toList;rw[show s.data.toList.length=s.size from by rw[ax7];rfl] at h1 H;have aed:(⟨#[44]⟩:e6).data.toList=[44]:=rfl;rw[aed] at e awo;unfold mE;by_cases h:4<(splitB 44 s.data.toList).length
 ·rw[if_pos h,if_pos (by rw[awo];exact h1.2 h)]
 ·rw[if_neg h,if_neg (by rw[awo];exact fun cC=>h (h1.1 cC)),e,H h];have:A8=si:=funext fun p=>(aaW p).symm;rw[this]
def Hc(s:e6)(w:World)(R:et w)(hs:s.size<=2000000):ey 28 #[.string s] w (DU s w):=by
 obtain⟨i0,hi,gj,gx,cd⟩:=info_parts aeb;have k0:=R.js;obtain⟨m,hm⟩:=R.maxLen;have DV:=Tryz.strings_SplitN s ⟨#[44]⟩ 5 m w r hm K K K;have DW:=u (aec s);have mn:=Lib.splitB_length_le ⟨#[44]⟩ 0 (min 5 (s.size+1)-1) s;have DX:=fun p aj=>bX (ad9 ⟨#[44]⟩ (min 5 (s.size+1)-1) s p aj) hs;generalize Lib.splitB ⟨#[44]⟩ 0 (min 5 (s.size+1)-1) s=bE at *;generalize min 5 (s.size+1)=N at *;have zz:=u DV;have aee:=u DX;have dF:Below (w.heap.size+1) (w.alloc (.cells (Lib.cellsOf bE N) 9)) (w.alloc (.cells (Lib.cellsOf bE N) 9)):=Below.refl _ _;have hK:eB w (w.alloc (.cells (Lib.cellsOf bE N) 9)):=cT;have Hd:=u (aea bE N w);have qy:=bH w (.cells (Lib.cellsOf bE N) 9);have z0:(w.alloc (.cells (Lib.cellsOf bE N) 9)).heap.size=w.heap.size+1:=by simp
 clear DV DX hm;go_enter func28,ntmps28;go_upto_region 2 with(go_at_call 54;refine zz.d.mono ?_;rintro e w' ⟨rfl,rfl⟩);generalize w.alloc (.cells (Lib.cellsOf bE N) 9)=W at *;by_cases aK:4<bE.length
 ·have sw:(4:Int)<(bE.length:Int):=r;go_wp2_with fail;go_ret2;refine⟨?_,hK⟩;rw[DW.d,if_pos aK];rfl
 ·have sw:(bE.length:Int)<=4:=r;have fG:Hid (mE s.data.toList=iq si (bE.map (·.data.toList))):=u (DW.d.trans (if_neg aK));go_wp2_with fail;go_loopg [5,17] (bE.length+1) (fun U fl i wr=>∃(j:Nat) (l:List (e6×Nat)),j<=bE.length/\l.length=j/\i=q (j:Int)/\Hid (iq si ((bE.take j).map (·.data.toList))=some l)/\wr.ownsRow (w.heap.size+1) 130 2 fl l.length (mO l)/\Below (w.heap.size+1) W wr/\bE.length-j<U);case atStart=>exact⟨0,[],bu,rfl,rfl,u rfl,⟨rfl,.inl ⟨rfl,rfl⟩⟩,dF,r⟩
  case round=>
   obtain⟨j,l,aS,BE,rfl,dI,an,A,ae⟩:=hrel;have sz:=u BE;have acP:l.length<=4:=r;clear BE;have fN:eB w wr:=hK.trans (A.mono r);have dh:=R.below fN k0;by_cases aD:j<bE.length
   ·have cL:(j:Int)<(bE.length:Int):=r;have lS:dp wr w.heap.size j=some (.string bE[j]):=(World.cell?_of_block (A.block w.heap.size r)).trans (Hd.d j aD);have aef:=aee.d _ (ec aD);have zD:iq si ((bE.take (j+1)).map (·.data.toList))=(si bE[j].data.toList).bind fun y=>some (l++[y]):=by rw[jD aD,List.map_append,List.map_cons,List.map_nil,QP,dI.d];rfl
    have nT:bE[j].data.toList∈bE.map (·.data.toList):=List.mem_map_of_mem (ec aD);have zE:=u nT;have DY:=u (aa1 bE[j] wr dh aef);have tR:=u zD;have ch:=u ae;have fr:IntKind.i64.wrap ((j:Int)+1)=(j:Int)+1:=mC;have He:=A.size;clear zD nT ae dI dh;generalize SN:bE[j]=p at *;have arN:=u SN;clear SN;obtain⟨gB,jw,rfl⟩:=cG an;cases DZ:si p.data.toList with
    | none=>rw[DZ] at DY tR;have nv:=u DZ;clear DZ;go_wp2_with (go_at_call 55;refine DY.d.mono ?_;rintro e S ⟨rfl,ah⟩;simp only[Kn]);go_ret2;refine⟨?_,(fN.trans (ah.mono fN.size)).alloc (by have:=ah.size;omega) _⟩;rw[fG.d,QQ si _ _ zE.d nv.d];rfl
    | some c=>
     obtain⟨cH,o8⟩:=c;rw[DZ] at DY tR;clear DZ;go_upto_region 11 with(go_at_call 55;refine DY.d.mono ?_;rintro e S ⟨rfl,ah⟩;simp only[Kn]);have fq:=bH S (.cells #[.string cH,q (o8:Int)] 130);have cg:eB wr (S.alloc (.cells #[.string cH,q (o8:Int)] 130)):=ah.alloc (by have:=ah.size;omega) _;have ie:=ee an cg;have z2:=ah.size;have Lu:Hid ((S.alloc (.cells #[.string cH,q (o8:Int)] 130)).heap.size=S.heap.size+1):=u (by simp);generalize S.alloc (.cells #[.string cH,q (o8:Int)] 130)=lu at *;have dN:dp lu S.heap.size 0=some (.string cH):=Z fq (i:=0) rfl;have bz:dp lu S.heap.size 1=some (q (o8:Int)):=Z fq (i:=1) rfl;clear lS an DY
     go_wp2_with (at_builtin;refine wpList_append_own _ rfl _ _ 80 rfl (w.heap.size+1) 130 i0 (.agg #[.string ⟨#[]⟩,q 0]) 2 24 underlying80 hi gj gx cd rfl K _ _ _ rfl (ie.alloc _) ⟨lu.heap.size,0,none⟩ 1 1 [.string cH,q (o8:Int)] rfl rfl (World.news_of_block (cs:=#[.string cH,q (o8:Int)]) (bH lu _)) (by simp[Value.oneCell']) (by unfold maxLen;omega) r (by rw[cc,Lu.d];omega) ?_);intro cF bh py jE _;have iR:Below (w.heap.size+1) lu bh:=((Below.refl _ lu).alloc (by rw[Lu.d];omega) _).grown jE (by rw[cc,Lu.d];omega) (fun k hk=>(ie.lt k hk).1);clear dN bz;go_wp2_with fail;have ae:=ch.d;go_roundg (gk-1);case measure=>omega
     case rel=>exact⟨j+1,l++[(cH,o8)],r,by rw[cu,sz.d];rfl,by go_num,u tR.d,by rw[ad8,cu];exact py,(A.trans (cg.mono r)).trans iR,r⟩
   ·have cL:(bE.length:Int)<=(j:Int):=r;have sr:j=bE.length:=r;have sA:Hid (mE s.data.toList=some l):=u (by rw[fG.d,<-dI.d,sr,List.take_length]);clear ae dI;obtain⟨gB,jw,rfl⟩:=cG an;go_wp2_with fail;go_ret2;refine⟨?_,fN⟩;rw[sA.d];exact⟨_,rfl,ei r an⟩
def aeg(l:List (e6×Nat))(p:Nat)(h:p<l.length):(mO l)[p*2]?=some (.string l[p].1)/\(mO l)[p*2+1]?=some (q (l[p].2:Int)):=by
 induction l generalizing p with
 | nil=>exact absurd h (fp _)
 | cons a C aH=>
  have e:mO (a::C)=[.string a.1,q (a.2:Int)]++mO C:=by simp[mO]
  rw[e];cases p with
  | zero=>exact⟨rfl,rfl⟩
  | succ p=>
   have:=aH p (by simpa using h);rw[List.getElem?_append_right (by simp;omega),List.getElem?_append_right (by simp;omega)];have Y:(p+1)*2 - [Value.string a.1,Value.int IntKind.i64 (a.2:Int)].length=p*2:=by simp;omega
   have am:(p+1)*2+1 - [Value.string a.1,Value.int IntKind.i64 (a.2:Int)].length=p*2+1:=by simp;omega
   rw[Y,am];simpa using this
def Lv{w:World}{base:Nat}{l:List (e6×Nat)}{g af:Nat}(h:w.ownsRow base 130 2 (.slice (some ⟨g,0,none⟩) l.length af) l.length (mO l))(p:Nat)(aj:p<l.length):dp w g (p*2)=some (.string l[p].1)/\dp w g (p*2+1)=some (q (l[p].2:Int)):=by obtain⟨h1,H⟩:=aeg l p aj;have Y:=h.cells rfl _ _ h1;have am:=h.cells rfl _ _ H;rw[Addr.add_lit,ax1] at Y am;exact⟨Y,am⟩
def SO(v:Value)(l:List (e6×Nat))(base:Nat)(w:World)(an:w.ownsRow base 130 2 v l.length (mO l))(X:l.length<=1000):ey 32 #[v] w (gU w (.bool (twins l))):=by
 rcases an.2 with⟨rfl,aw⟩ | ⟨g,af,ay,rfl,_,_,om,_⟩
 ·obtain rfl:l=[]:=ma aw;go_enter func32,ntmps32;go_wp2_with fail;refine wp_loop_rounds 1 ?_;rw[rounds_succ];go_wp2_with fail;go_ret;exact⟨rfl,Below.refl _ _⟩
 ·go_enter func32,ntmps32;go_wp2_with fail;go_loopg [9] (l.length+1) (fun U i wr=>∃(j:Nat),j<=l.length/\i=q (j:Int)/\Dj l j/\eB w wr/\l.length-j<U);case atStart=>exact⟨0,bu,rfl,(fun a b _ A _=>absurd A (fp _)),Below.refl _ _,r⟩
  case round=>
   obtain⟨j,aS,rfl,ar,A,ae⟩:=hrel;by_cases aD:j<l.length
   ·have cL:(j:Int)<(l.length:Int):=r;have wq:(j:Int)<=(af:Int):=r;obtain⟨c1,c2⟩:=Lv (ee an A) j aD;have fr:IntKind.i64.wrap ((j:Int)+1)=(j:Int)+1:=mC;have bn:=u ar;have ch:=u ae;clear ar ae;go_wp2_with fail;have fq:=bH wr (.cells #[.string l[j].1,q (l[j].2:Int)] 130);have fN:eB w (wr.alloc (.cells #[.string l[j].1,q (l[j].2:Int)] 130)):=A.alloc A.size _;generalize wr.alloc (.cells #[.string l[j].1,q (l[j].2:Int)] 130)=W at *;have dy:=u (fun (i:Nat) (tQ:i<j) (e:l[j].1=(l[i]'r).1)=>QS l i j tQ aD e);have mo:=u (fun (H:Gv l j j aD)=>bn.d.next aD H);have He:=A.size;generalize wr.heap.size=G at *;clear c1 c2 A;go_loopg [18] (j+1) (fun U i aeh=>∃(n:Nat),n<=j/\i=q (n:Int)/\Gv l j n aD/\eB W aeh/\j-n<U)
    case atStart=>exact⟨0,bu,rfl,(fun a ak _=>absurd ak (fp _)),Below.refl _ _,r⟩
    case round=>
     obtain⟨i,hi,rfl,xS,D0,ow⟩:=hrel;have Hf:eB w wr:=fN.trans (D0.mono fN.size);by_cases BF:i<j
     ·have aei:(i:Int)<(j:Int):=r;obtain⟨c1,c2⟩:=Lv (ee an Hf) i r;have nu:=(D0.block G (br fq).1).trans fq;have d0:dp wr G 0=some (.string l[j].1):=Z nu (i:=0) rfl;have aej:IntKind.i64.wrap ((i:Int)+1)=(i:Int)+1:=mC;have aek:G<wr.heap.size:=(br nu).1;have o6:(wr.alloc (.cells #[.string (l[i]'r).1,q ((l[i]'r).2:Int)] 130)).cell? ⟨G,0,none⟩=some (.string l[j].1):=(World.cell?_of_block (Below.heap_alloc wr _ G aek)).trans d0;by_cases he:l[j].1=(l[i]'r).1
      ·have ael:=u (dy.d i BF he);rw[he] at d0 o6;clear xS ow;go_wp2_with fail;go_ret;exact⟨by rw[ael.d];rfl,Hf.alloc Hf.size _⟩
      ·have zp:Hid (Gv l j (i+1) aD):=u (fun a ak me=>by
        by_cases e:a=i
        ·subst e;exact he
        ·exact xS a r me)
       have cy:(l[j].1.toList==(l[i]'r).1.toList)=false:=by
        rw[cV,ByteArray.toList_eq,ByteArray.toList_eq];intro e;apply he;have:=congrArg List.toArray e;simp at this;cases h1:l[j].1 with
        | mk x=>cases H:(l[i]'r).1 with
         | mk y=>rw[h1,H] at this;simpa using this
       have aem:=u ow;clear xS ow he;go_wp2_with fail;have ow:=aem.d;go_roundg (j-i);case measure=>omega
       case rel=>exact⟨i+1,r,by go_num,zp.d,D0.alloc D0.size _,r⟩
     ·have aei:(j:Int)<=(i:Int):=r;have tQ:i=j:=r;have HU:=u (mo.d (tQ▸xS));clear xS ow tQ;go_wp2_with fail;have ae:=ch.d;go_roundg (l.length-j);case measure=>omega
      case rel=>exact⟨j+1,r,by go_num,HU.d,Hf,r⟩
   ·have cL:(l.length:Int)<=(j:Int):=r;have lv:j=l.length:=r;have bj:=u (QR l (lv▸ar));clear ar ae lv;go_wp2_with fail;go_ret;exact⟨by rw[bj.d];rfl,A⟩
def rz(bs:List Nat):List Value:=bs.map fun b=>M b
def rA(bs:List Nat):Option Nat->Value
 | none=>.pointer none
 | some i=>.pointer (some ⟨bs.getD i 0,0,none⟩)
def toList_inj{a b:e6}(h:a.toList=b.toList):a=b:=by
 rw[ByteArray.toList_eq,ByteArray.toList_eq] at h;cases a with
 | mk x=>cases b with
  | mk y=>exact congrArg ByteArray.mk (Array.toList_inj.1 h)
def Lw(v:Value)(bs:List Nat)(e5:e4)(name:e6)(base:Nat)(w:World)(an:w.ownsRow base 83 1 v bs.length (rz bs))(Lx:e5.length=bs.length)(X:bs.length<=1000)(ou:∀i (h:i<bs.length) (H:i<e5.length),dp w (bs[i]) 0=some (.string e5[i])):ey 30 #[v,.string name] w (ov w (rA bs (nK e5 name))):=by
 rcases an.2 with⟨rfl,aw⟩ | ⟨g,af,ay,rfl,_,_,om,_⟩
 ·obtain rfl:bs=[]:=ma aw;obtain rfl:e5=[]:=ma Lx;go_enter func30,ntmps30;go_wp2_with fail;refine wp_loop_rounds 1 ?_;rw[rounds_succ];go_wp2_with fail;go_ret;exact⟨rfl,rfl⟩
 ·have aen:=u ou;have wt:=u Lx;clear ou Lx;go_enter func30,ntmps30;go_wp2_with fail;go_loopg [9] (bs.length+1) (fun U i wr=>∃(j:Nat),j<=bs.length/\i=q (j:Int)/\Gw e5 name j/\w=wr/\bs.length-j<U);case atStart=>exact⟨0,bu,rfl,(fun a ak _=>absurd ak (fp _)),rfl,r⟩
  case round=>
   obtain⟨j,aS,rfl,ar,rfl,ae⟩:=hrel;by_cases aD:j<bs.length
   ·have cL:(j:Int)<(bs.length:Int):=r;have hE:j<e5.length:=by have:=wt.d;omega
    have c1:dp w g j=some (.pointer (some ⟨bs[j],0,none⟩)):=by
     have h1:(rz bs)[j]?=some (.pointer (some ⟨bs[j],0,none⟩)):=by unfold rz;rw[List.getElem?_map,fC aD];rfl
     have:=an.cells rfl j _ h1;rwa [Addr.add_lit,ax1] at this
    have c2:=aen.d j aD hE;have fr:IntKind.i64.wrap ((j:Int)+1)=(j:Int)+1:=mC;by_cases he:e5[j]=name
    ·have bj:=u (aaZ ar hE he);have ht:Hid (bs.getD j 0=bs[j]):=u (by rw[List.getD,fC aD];rfl);rw[he] at c2;clear ar ae;go_wp2_with fail;go_ret;exact⟨by rw[bj.d,rA,ht.d];rfl,rfl⟩
    ·have HU:Hid (Gw e5 name (j+1)):=u (fun a ak h=>by
      by_cases e:a=j
      ·subst e;exact he
      ·exact ar a r h)
     have cy:(e5[j].toList==name.toList)=false:=by rw[cV];exact fun e=>he (toList_inj e)
     have ch:=u ae;clear ar ae he;go_wp2_with fail;have ae:=ch.d;go_roundg (bs.length-j);case measure=>omega
     case rel=>exact⟨j+1,r,by go_num,HU.d,rfl,r⟩
   ·have cL:(bs.length:Int)<=(j:Int):=r;have lv:j=e5.length:=by have:=wt.d;omega
    have bj:=u (aaY (lv▸ar));clear ar ae lv;go_wp2_with fail;go_ret;exact⟨by rw[bj.d];rfl,rfl⟩
def fc(l:List al):List Value:=l.flatMap fun v=>[q (v.kind:Int),q v.num,.string (a7 v.du)]
def wu(l:List al)(p:Nat)(h:p<l.length):(fc l)[p*3]?=some (q (l[p].kind:Int))/\(fc l)[p*3+1]?=some (q l[p].num)/\(fc l)[p*3+2]?=some (.string (a7 l[p].du)):=by
 induction l generalizing p with
 | nil=>exact absurd h (fp _)
 | cons a C aH=>
  have e:fc (a::C)=[q (a.kind:Int),q a.num,.string (a7 a.du)]++fc C:=by simp[fc]
  rw[e];cases p with
  | zero=>exact⟨rfl,rfl,rfl⟩
  | succ p=>have:=aH p (by simpa using h);rw[List.getElem?_append_right (by simp;omega),List.getElem?_append_right (by simp;omega),List.getElem?_append_right (by simp;omega)];have c7:([Value.int IntKind.i64 (a.kind:Int),Value.int IntKind.i64 a.num,Value.string (a7 a.du)]:List Value).length=3:=rfl;have Y:(p+1)*3-3=p*3:=r;have am:(p+1)*3+1-3=p*3+1:=r;have bm:(p+1)*3+2-3=p*3+2:=r;rw[c7,Y,am,bm];simpa using this
def aeo(b g af gc jw:Nat)(l:List al)(cs:List (e6×Nat))(w:World)(cY:b<w.heap.size)(b7:l.length=cs.length)(X:l.length<=1000)(ai:dp w b 1=some (.slice (some ⟨gc,0,none⟩) cs.length jw))(x7:w.ownsRow 0 130 2 (.slice (some ⟨gc,0,none⟩) cs.length jw) cs.length (mO cs))(an:w.ownsRow 0 112 3 (.slice (some ⟨g,0,none⟩) l.length af) l.length (fc l)):ey 59 #[M b,.slice (some ⟨g,0,none⟩) l.length af] w (gU w (.bool (q7 l cs))):=by
 have fk:=u b7;clear b7;go_enter func59,ntmps59;go_wp2_with fail;go_loopg [9] (l.length+1) (fun U i wr=>∃(j:Nat),j<=l.length/\i=q (j:Int)/\Kl l cs j/\eB w wr/\l.length-j<U);case atStart=>exact⟨0,bu,rfl,(fun a ak _ _=>absurd ak (fp _)),Below.refl _ _,r⟩
 case round=>
  obtain⟨j,aS,rfl,ar,A,ae⟩:=hrel;by_cases aD:j<l.length
  ·have cL:(j:Int)<(l.length:Int):=r;have SP:j<cs.length:=by have:=fk.d;omega
   have arO:(j:Int)<(cs.length:Int):=r;obtain⟨cX,cA,AV⟩:=wu l j aD;have c1:=(ee an A).cells rfl _ _ cX;have c2:=(ee an A).cells rfl _ _ cA;have dZ:=(ee an A).cells rfl _ _ AV;rw[Addr.add_lit,ax1] at c1 c2 dZ;have fr:IntKind.i64.wrap ((j:Int)+1)=(j:Int)+1:=mC;have ch:=u ae;have mo:=u (fun (h:l[j].kind=0\/l[j].kind=cs[j].2)=>(show Kl l cs (j+1) from fun a ak h1 H=>by
    by_cases e:a=j
    ·subst e;exact h
    ·exact ar a r h1 H))
   have bj:=u (fun (h1:l[j].kind≠0) (H:l[j].kind≠cs[j].2)=>QU l cs j aD SP h1 H);clear ar ae cX cA AV;go_upto_region 4 with fail;have fq:=bH wr (.cells #[q (l[j].kind:Int),q l[j].num,.string (a7 l[j].du)] 112);have fN:eB w (wr.alloc (.cells #[q (l[j].kind:Int),q l[j].num,.string (a7 l[j].du)] 112)):=A.alloc A.size _;generalize wr.alloc (.cells #[q (l[j].kind:Int),q l[j].num,.string (a7 l[j].du)] 112)=W at *;generalize wr.heap.size=G at *;have d0:dp W G 0=some (q (l[j].kind:Int)):=Z fq (i:=0) rfl;have d1:dp W b 1=some (.slice (some ⟨gc,0,none⟩) cs.length jw):=(World.cell?_of_block (fN.block b cY)).trans ai;obtain⟨_,d2⟩:=Lv (ee x7 fN) j SP;clear c1 c2 dZ ai;generalize l[j].kind=gr at *;generalize cs[j].2=gH at *;by_cases aw:gr=0
   ·subst aw;have dy:=u (mo.d (Or.inl rfl));go_quiet (fail);go_wp2_with fail;have ae:=ch.d;go_roundg (l.length-j);case measure=>omega
    case rel=>exact⟨j+1,r,by go_num,dy.d,fN.trans ⟨rfl,rfl,rfl,ap,fun _ _=>rfl⟩,r⟩
   ·have xy:¬(gr:Int)=0:=r;by_cases h1:gr=gH
    ·subst h1;have dy:=u (mo.d (Or.inr rfl));go_quiet (fail);go_wp2_with fail;have ae:=ch.d;go_roundg (l.length-j);case measure=>omega
     case rel=>exact⟨j+1,r,by go_num,dy.d,fN.trans ⟨rfl,rfl,rfl,ap,fun _ _=>rfl⟩,r⟩
    ·have og:¬(gr:Int)=(gH:Int):=r;have dy:=u (bj.d aw h1);have arP:((gr:Int) != 0)=true:=bne_iff_ne.2 xy;have arQ:((gr:Int) != (gH:Int))=true:=bne_iff_ne.2 og;clear xy og;go_quiet (fail);go_wp2_with fail;go_ret;exact⟨by rw[dy.d];rfl,fN.trans ⟨rfl,rfl,rfl,ap,fun _ _=>rfl⟩⟩
  ·have cL:(l.length:Int)<=(j:Int):=r;have lv:j=l.length:=r;have bj:=u (QT l cs (lv▸ar));clear ar ae lv;go_wp2_with fail;go_ret;exact⟨by rw[bj.d];rfl,A⟩
