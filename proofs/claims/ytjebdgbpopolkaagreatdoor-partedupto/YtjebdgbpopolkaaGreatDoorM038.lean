import Derived.Test.YtjebdgbpopolkaaGreatDoorM026
import Derived.Test.YtjebdgbpopolkaaGreatDoorM037
set_option maxHeartbeats 0
set_option maxRecDepth 100000
set_option linter.all false
namespace Go.Proofs.YtjebdgbpopolkaaGreatDoor
open Tryz
open Go.RowKit Go.Sort Go.Shelf
open bS
variable{W aU w w':World}{N b base c bQ h hi i j k lc cj lo n U size bD aX ib wb:Nat}{aE v:Value}{l:je}{F:Nat->Prop}{rs:List (Nat×Value)}{G:Option Nat}{gT entry O time:Int}{a b6 bt:Option Addr}{xs:List Value}{x:e4×aL}{td kg:List eb}{hv t wh:aL}{V:lh}{i1:List (List al×ez)}{e:TypeId}{g:hG}{ts:e4}{cs:Array Value}{ex:tT}{o:Obj}{cU:e6}
def hP(V:lh)(aG:ez)(k:Nat):List fo:=aG.map fun c=>((V.getD k (⟨#[]⟩,⟨#[]⟩)).1,(((c.getD k (0,[])).1:Nat):Int))
def iO(V:lh)(aG:ez)(i:Nat):List fo:=(List.range i).flatMap (hP V aG)
def WS(V:lh)(aG:ez)(i:Nat):iO V aG (i+1)=iO V aG i++hP V aG i:=by unfold iO;rw[List.range_succ,List.flatMap_append];simp
def CG(V:lh)(aG:ez):∀i,(iO V aG i).length=i*aG.length
 | 0=>by simp[iO]
 | i+1=>by rw[WS,cu,CG V aG i,Nat.add_mul,Nat.one_mul];simp[hP]
def amf:(prog.info? 40).map (fun i=>(i.zero,i.size,i.bytes))=some (some (.agg #[.string ⟨#[]⟩,q 0]),2,24):=ax
def amg{l:List fo}(h:w.ownsRow base 40 2 v l.length (l.flatMap dX))(A:base<=w.heap.size)(X:l.length<=1000000)(x:fo):∃a n c w',(∀ty,(Builtin.append_ #[35,35] ty #[v,.slice (some ⟨w.heap.size,0,none⟩) 1 1]).run prog (w.alloc (.cells #[.string x.1,q x.2] 40))=.ok (.slice a n c) w')/\w'.ownsRow base 40 2 (.slice a n c) (l++[x]).length ((l++[x]).flatMap dX)/\Below base w w':=by
 obtain⟨cF,w',ag,an,R,fq⟩:=ug underlying35 amf rfl K K h #[.string x.1,q x.2] rfl (by simp[Value.oneCell']) r A;obtain⟨a,c,rfl⟩:=cG an;refine⟨a,_,c,w',ag,?_,?_⟩
 ·rw[cu,List.flatMap_append];simpa [dX] using an
 ·exact((Below.refl base w).alloc A _).grown R (by rw[cc];omega) (fun k e=>(h.lt k e).1)
def dk.at_(h:dk F w rs l)(i:Nat)(hi:i<l.length):∃(h1:i<rs.length),rs[i].1=l[i].1:=⟨by rw[h.len];exact hi,(h.get i (by rw[h.len];exact hi) hi).1⟩
def amh{B:List bG}{ao:Bool}{st:az}(sv gv:Value)(V:lh)(aG:ez)(us:List Value)(w:World)(h:aM F w wb G B O ao st)(hs:qS w sv V)(iu:V.length<=3)(av:∀s∈V,∃i,∃(hi:i<B.length),fD B s.1=some i/\B[i].name=s.1)(aj:el (jS wb G) w 92 gv us)(ai:fV F wb G w us aG)(ef:aG.length<=20000)(pN:∀c∈aG,c.length=V.length):ey 41 #[M wb,sv,gv] w fun e w'=>∃v,e=.returned v/\w'.ownsRow w.heap.size 40 2 v (hj [iO V aG V.length]).length ((hj [iO V aG V.length]).flatMap dX)/\Below w.heap.size w w':=by
 obtain⟨⟨eD,B8,rfl,ta⟩,_⟩:=hs.1,hs.2;obtain⟨⟨bf,gc,rfl⟩,_⟩:=aj.1,aj.2;have WT:=ai.len;have X:=h.lt;obtain⟨aE,b0,bz,cz,fP,iM,aI,aZ,-⟩:=id h.at_;have An:Hid (∀W,Below w.heap.size w W->dp W wb 0=some aE):=u (fun W A=>Z ((A.block wb X).trans aI) (i:=0) rfl);have Pa:Hid (∀W,Below w.heap.size w W->∀k (hk:k<V.length),∃g off,eD=some ⟨g,off,none⟩/\g<w.heap.size/\dp W g (off+k*2)=some (.string V[k].1)/\dp W g (off+k*2+1)=some (.string V[k].2)):=u (fun W A k hk=>by
  obtain⟨g,off,e,R,bk,c1⟩:=hs.cells k hk;exact⟨g,off,e,R,(A.cell (p:=⟨g,off+k*2,none⟩) R).trans bk,(A.cell (p:=⟨g,off+k*2+1,none⟩) R).trans c1⟩)
 have FQ:Hid (∀k (hk:k<V.length),∃qR,(∀W,Below w.heap.size w W->dp W qR 0=some (.string V[k].1))/\qR<w.heap.size/\∀W,Below w.heap.size w W->ey 30 #[aE,.string V[k].1] W (ov W (M qR))):=u (fun k hk=>by
  obtain⟨i,hi,f1,f2⟩:=av _ (ec hk);obtain⟨qR,t1,t2⟩:=aZ.find V[k].1 i hi f1;have Ax:=t1.lt;have ar:=t1.name;rw[f2] at ar;exact⟨qR,fun W A=>(A.cell (p:=⟨qR,0,none⟩) Ax).trans ar,Ax,fun W A=>t2 W (fun k _ av=>⟨av,A.block k (h.fH k av)⟩)⟩)
 have ami:Hid (∀W,Below w.heap.size w W->∀j (aS:j<aG.length),∃g off gB dz,bf=some ⟨g,off,none⟩/\g<w.heap.size/\dp W g (off+j)=some (.slice gB aG[j].length dz)/\aG[j].length=V.length/\∀k,k<V.length->∃pY,gB=some ⟨pY,0,none⟩/\pY<w.heap.size/\dp W pY (k*2)=some (q (((aG[j].getD k (0,[])).1:Nat):Int))):=u (fun W A j aS=>by
  obtain⟨g,off,ay,e,am,bm,hq⟩:=aj.2 _ _ _ rfl r;have R:=(br bm).1;obtain⟨rs,cX,cA⟩:=ai.get j r aS;obtain⟨gB,dz,ip⟩:=cG cX.1;have h1:=hq j r;rw[ip] at h1;refine⟨g,off,gB,dz,e,R,Z ((A.block g R).trans bm) h1,pN _ (ec aS),fun k hk=>?_⟩;have b7:=pN _ (ec aS);rw[ip] at cX;obtain⟨bZ,dR⟩:=cA.at_ k r;rcases cX.1.2 with⟨_,aY⟩ | ⟨pY,af,Hk,yL,q1,bN,_⟩
  ·omega
  ·injection yL with yL _ _;have Pb:=(br bN).1;subst yL;have ab:=cX.1.cells rfl (k*2) _ (Hm rs k bZ).1;rw[Addr.add_lit,ax1,dR] at ab;refine⟨pY,rfl,Pb,?_⟩;rw[List.getD_eq_getElem?_getD,fC r];exact(A.cell (p:=⟨pY,k*2,none⟩) Pb).trans ab)
 have Pc:=u ef;rw[WT];clear hs aj ai h av pN aI aZ WT ef;go_enter func41,ntmps41;go_upto_region 3 with fail;go_loopg [7,15] (V.length+1) (fun U kr i wr=>∃k:Nat,k<=V.length/\i=q (k:Int)/\Hid (wr.ownsRow w.heap.size 40 2 kr (iO V aG k).length ((iO V aG k).flatMap dX))/\Hid (Below w.heap.size w wr)/\V.length-k<U);case atStart=>exact⟨0,bu,rfl,u (World.ownsRow_nil _ _ _ _),u (Below.refl _ _),r⟩
 case round=>
  obtain⟨k,hk,rfl,jA,bc,ae⟩:=hrel;by_cases aD:k<V.length
  ·have cL:(k:Int)<(V.length:Int):=r;obtain⟨g,off,rfl,ef,bk,c1⟩:=Pa.d wr bc.d k aD;obtain⟨qR,Ax,atb,bj⟩:=FQ.d k aD;have amj:=u Ax;have WU:=u bj;have yo:=u aD;have sU:IntKind.i64.wrap ((k:Int)+1)=(k:Int)+1:=mC;have wU:¬g=wr.heap.size:=by have:=bc.d.size;omega
   have bn:Hid (hP V aG k=aG.map fun c=>(V[k].1,(((c.getD k (0,[])).1:Nat):Int))):=u (by unfold hP;rw[List.getD_eq_getElem?_getD,fC aD];rfl);have ch:=u ae;clear Ax bj ae;generalize V[k].1=ha at *;generalize V[k].2=jJ at *;go_upto_region 5 with fail;have dF:Below w.heap.size w (wr.alloc (.cells #[.string ha,.string jJ] 161)):=bc.d.alloc bc.d.size _;have aO:=bH wr (.cells #[.string ha,.string jJ] 161);have pM:=Z aO (i:=0) rfl;have h0:=An.d _ dF;have r1:=u dF;have WV:=u (ee jA.d ((Below.refl wr.heap.size wr).alloc ap (.cells #[.string ha,.string jJ] 161)));clear bk c1 aO dF jA bc;generalize wr.alloc (.cells #[.string ha,.string jJ] 161)=W at *;generalize wr.heap.size=aB at *
   have WW:Hid (ey 30 #[aE,.string ha] W.drew fun e S=>e=.returned (M qR)/\W.drew=S):=u (WU.d W.drew ⟨r1.d.os,r1.d.tape,r1.d.output,r1.d.size,r1.d.block⟩);go_region_held3 (fun w'=>w'.cell? ⟨wb,0,none⟩=some aE/\w'.cell? ⟨aB,0,none⟩=some (.string ha)) (go_keep) (first | (go_at_call 30;refine WW.d.mono ?_;rintro e S ⟨rfl,rfl⟩));have qN:Hid (Below w.heap.size w W.drew):=u ⟨r1.d.os,r1.d.tape,r1.d.output,r1.d.size,r1.d.block⟩;have qD:Hid (W.drew.ownsRow w.heap.size 40 2 u7 (iO V aG k).length ((iO V aG k).flatMap dX)):=u WV.d.drew;clear WW WU WV r1 pM h0;generalize W.drew=ih at *;have AD:Hid ((hP V aG k).length=aG.length):=u (by unfold hP;rw[cZ]);have Ji:=u (CG V aG k);go_upto_region 7 with fail;obtain⟨FR,rfl⟩:∃x,x=gk:=⟨gk,rfl⟩
   go_loopg [7,29] (aG.length+1) (fun bN kr i wr=>∃j:Nat,j<=aG.length/\i=q (j:Int)/\Hid (wr.ownsRow w.heap.size 40 2 kr (iO V aG k++(hP V aG k).take j).length ((iO V aG k++(hP V aG k).take j).flatMap dX))/\Hid (Below w.heap.size w wr)/\aG.length-j<bN);case atStart=>exact⟨0,bu,rfl,u (by rw[List.take_zero,List.append_nil];exact qD.d),qN,r⟩
   case round=>
    obtain⟨j,aS,rfl,jA,bc,kL⟩:=hrel;by_cases hE:j<aG.length
    ·have uE:(j:Int)<(aG.length:Int):=r;obtain⟨g2,atd,gB,dz,rfl,bC,d0,E6,bb⟩:=ami.d wr bc.d j hE;obtain⟨pY,rfl,Pb,d1⟩:=bb k yo.d;have cM:(k:Int)<(aG[j].length:Int):=by have:=yo.d;omega
     have c7:=amj.d wr bc.d;have WX:Hid ((iO V aG k++(hP V aG k).take j)++[(ha,(((aG[j].getD k (0,[])).1:Nat):Int))]=iO V aG k++(hP V aG k).take (j+1)):=u (by
      rw[List.append_assoc,jD (by rw[AD.d];exact hE)];congr 2;have:(hP V aG k)[j]'(by rw[AD.d];exact hE)=(ha,(((aG[j].getD k (0,[])).1:Nat):Int)):=by simp only[bn.d,List.getElem_map]
      rw[this])
     have tD:(iO V aG k++(hP V aG k).take j).length<=1000000:=by rw[cu,List.length_take,Ji.d];have:=Pc.d;have xC:=yo.d;have:k*aG.length<=3*20000:=Nat.mul_le_mul r this;omega
     obtain⟨hl,e2,iL,bh,p1,p2,fw⟩:=amg (w:=wr.drew) jA.d.drew (by show w.heap.size<=wr.heap.size;exact bc.d.size) tD (ha,(((aG[j].getD k (0,[])).1:Nat):Int));rw[WX.d] at p2;have qa:=u p1;have xf:=u p2;have ua:Hid (Below w.heap.size w bh):=u ((show Below w.heap.size w wr.drew from⟨bc.d.os,bc.d.tape,bc.d.output,bc.d.size,bc.d.block⟩).trans fw);obtain⟨eL,rc,tP⟩:=cG jA.d;subst tP;have vt:IntKind.i64.wrap ((j:Int)+1)=(j:Int)+1:=by have:=Pc.d;rw[IntKind.wrap_i64];omega
     have wY:=u kL;have WY:wr.drew.heap.size=wr.heap.size:=rfl;clear p1 p2 fw tD WX jA bc kL bb E6;generalize (((aG[j].getD k (0,[])).1:Nat):Int)=lO at *;generalize aG[j].length=ate at *;generalize (iO V aG k++(hP V aG k).take j).length=amk at *;simp only[] at qa;rw[WY] at qa;clear WY;go_upto_region 9 with fail;go_region_law (refine IG rfl (.tmp 33) (.tmp 44) 35 35 rfl (.slice eL amk rc) (.slice (some ⟨wr.heap.size,0,none⟩) 1 1) (by simp[Act.eval]) (by simp[Act.eval]) (qa.d _) ?_);all_goals
      clear qa d0 d1 c7;go_wp2_with fail;have kL:=wY.d;go_roundg (gk-1);case measure=>omega
      case rel=>exact⟨j+1,r,by go_num,xf,ua,r⟩
    ·have eZ:j=aG.length:=r;subst eZ;have uE:(aG.length:Int)<=(aG.length:Int):=r;have Au:Hid (wr.ownsRow w.heap.size 40 2 _ (iO V aG (k+1)).length ((iO V aG (k+1)).flatMap dX)):=u (by have:=jA.d;rw[<-AD.d,List.take_length,<-WS] at this;exact this);clear jA kL;go_wp2_with fail;have ae:=ch.d;have xC:=yo.d;go_roundg (FR-1);case measure=>omega
     case rel=>exact⟨k+1,r,by go_num,Au,bc,r⟩
  ·have vq:k=V.length:=r;subst vq;have cL:(V.length:Int)<=(V.length:Int):=r;obtain⟨eL,rc,tP⟩:=cG jA.d;subst tP;have sW:Hid (ey 50 #[.slice (some ⟨wr.heap.size,0,none⟩) 1 1] (wr.alloc (.cells #[.slice eL (iO V aG V.length).length rc] 35)) fun e w'=>∃a n c,e=.returned (.slice a n c)/\Hid (w'.ownsRow w.heap.size 40 2 (.slice a n c) (hj [iO V aG V.length]).length ((hj [iO V aG V.length]).flatMap dX)/\Below w.heap.size w w')):=u (by
    have dI:=(Below.refl wr.heap.size wr).alloc ap (.cells #[.slice eL (iO V aG V.length).length rc] 35);refine(Vm _ [iO V aG V.length] _ ⟨[.slice eL (iO V aG V.length).length rc],⟨rfl,.inr ⟨wr.heap.size,1,_,rfl,bu,bH wr _,ap,K,rfl,rfl⟩⟩,rfl,fun i h1 H=>?_⟩ (by simp) (by
     rw[List.flatten_cons,List.flatten_nil,List.append_nil,CG];exact bX (Nat.mul_le_mul iu Pc.d) r)).mono ?_
    ·have hi:i=0:=by simpa using h1
     subst hi;exact ei bu (ee jA.d dI)
    ·rintro e w' ⟨v,rfl,bq,a2⟩;obtain⟨hl,iL,rfl⟩:=cG bq;have ff:wr.heap.size<=(wr.alloc (.cells #[.slice eL (iO V aG V.length).length rc] 35)).heap.size:=dI.size;exact⟨hl,_,iL,rfl,u ⟨ei (bX bc.d.size ff) bq,bc.d.trans ((dI.mono bc.d.size).trans (a2.mono (bX bc.d.size ff)))⟩⟩)
   clear ae jA;go_wp2_with (go_at_call 50;refine sW.d.mono ?_;rintro e bh ⟨hl,e2,iL,rfl,aj⟩);go_ret;exact⟨_,rfl,aj.d.1,aj.d.2⟩
def hn(w w':World):Prop:=∃U os,w'=Sort.grow (w.drewN U) os
def hn.refl(w:World):hn w w:=⟨0,#[],by rw[Sort.grow_empty];rfl⟩
def hn.trans{a b c:World}(h:hn a b)(g:hn b c):hn a c:=by
 obtain⟨U,os,rfl⟩:=h;obtain⟨C,bE,rfl⟩:=g;refine⟨U+C,os++bE,?_⟩;show Sort.grow (Sort.grow ((a.drewN U).drewN C) os) bE=_;rw[Sort.grow_grow];have:(a.drewN U).drewN C=a.drewN (U+C):=by unfold World.drewN;simp[Nat.add_assoc]
 rw[this]
def hn.alloc{a b:World}(h:hn a b)(o:Obj):hn a (b.alloc o):=h.trans ⟨0,#[o],by rw[Sort.alloc_eq_grow];rfl⟩
def hn.drew{a b:World}(h:hn a b):hn a b.drew:=h.trans ⟨1,#[],by rw[Sort.grow_empty];rfl⟩
def hn.below{a b:World}(h:hn a b):eB a b:=by obtain⟨U,os,rfl⟩:=h;exact V7 a U os
def Pd(v:al):List Value:=[q (v.kind:Int),q v.num,.string (a7 v.du)]
def Jj(l:List al):l.flatMap Pd=fc l:=rfl
def vA{E:TypeId}(h:w.ownsRow lo E k (.slice a n c) n xs)(ar:0<n):∃g,a=some ⟨g,0,none⟩/\g<w.heap.size:=by
 rcases h.2 with⟨_,aY⟩ | ⟨g,af,ay,e,_,bN,_⟩
 ·omega
 ·injection e with e _ _;exact⟨g,e,(br bN).1⟩
def aml(bq a2:Option Addr)(c1 c2:Nat)(l1 bT:List al)(w:World)(h1:w.ownsRow 0 112 3 (.slice bq l1.length c1) l1.length (l1.flatMap Pd))(H:w.ownsRow 0 112 3 (.slice a2 bT.length c2) bT.length (bT.flatMap Pd))(kz:l1.length<=1000000)(nu:bT.length<=1000000):ey 78 #[.slice bq l1.length c1,.slice a2 bT.length c2,.func (.func 79) #[] #[]] w fun e w'=>e=.returned (q (gl jo l1 bT))/\hn w w':=by
 have eX:=NV;have gu:Hid (∀W,hn w W->∀j (h:j<l1.length),∃g,bq=some ⟨g,0,none⟩/\g<w.heap.size/\dp W g (j*3)=some (q (l1[j].kind:Int))/\dp W g (j*3+1)=some (q l1[j].num)/\dp W g (j*3+2)=some (.string (a7 l1[j].du))):=u (fun W R j aS=>by
  obtain⟨g,e,X⟩:=vA h1 r;subst e;obtain⟨v0,v1,v2⟩:=wu l1 j aS;rw[Jj] at h1;have dN:=h1.cells rfl _ _ v0;have bz:=h1.cells rfl _ _ v1;have cz:=h1.cells rfl _ _ v2;rw[Addr.add_lit,ax1] at dN bz cz;exact⟨g,rfl,X,(R.below.cell (p:=⟨g,j*3,none⟩) X).trans dN,(R.below.cell (p:=⟨g,j*3+1,none⟩) X).trans bz,(R.below.cell (p:=⟨g,j*3+2,none⟩) X).trans cz⟩)
 have fG:Hid (∀W,hn w W->∀j (h:j<bT.length),∃g,a2=some ⟨g,0,none⟩/\g<w.heap.size/\dp W g (j*3)=some (q (bT[j].kind:Int))/\dp W g (j*3+1)=some (q bT[j].num)/\dp W g (j*3+2)=some (.string (a7 bT[j].du))):=u (fun W R j aS=>by
  obtain⟨g,e,X⟩:=vA H r;subst e;obtain⟨v0,v1,v2⟩:=wu bT j aS;rw[Jj] at H;have dN:=H.cells rfl _ _ v0;have bz:=H.cells rfl _ _ v1;have cz:=H.cells rfl _ _ v2;rw[Addr.add_lit,ax1] at dN bz cz;exact⟨g,rfl,X,(R.below.cell (p:=⟨g,j*3,none⟩) X).trans dN,(R.below.cell (p:=⟨g,j*3+1,none⟩) X).trans bz,(R.below.cell (p:=⟨g,j*3+2,none⟩) X).trans cz⟩)
 have Ix:Hid (∀W,hn w W->w.heap.size<=W.heap.size):=u (fun W R=>R.below.size);clear h1 H;generalize oF:gl jo l1 bT=gh at *;have ur:Hid (gl jo (l1.drop 0) (bT.drop 0)=gh):=u oF;clear oF;go_enter func78,ntmps78;go_upto_region 2 with fail;go_loopg [13] (l1.length+1) (fun U i wr=>∃j:Nat,j<=l1.length/\j<=bT.length/\i=q (j:Int)/\Hid (gl jo (l1.drop j) (bT.drop j)=gh)/\Hid (hn w wr)/\l1.length-j<U);case atStart=>exact⟨0,bu,bu,rfl,ur,u (hn.refl _),r⟩
 case round=>
  obtain⟨j,oE,kv,rfl,hinv,ig,ae⟩:=hrel;by_cases aD:j<l1.length
  ·have cL:(j:Int)<(l1.length:Int):=r;obtain⟨g1,rfl,dv,hr,cN,bL⟩:=gu.d wr ig.d j aD;have ff:=Ix.d wr ig.d;have amm:¬g1=wr.heap.size:=r;by_cases hE:j<bT.length
   ·have uE:¬((bT.length:Int)<=(j:Int)):=r;have Pe:(j:Int)<(bT.length:Int):=r;have o6:l1.drop j=l1[j]::l1.drop (j+1):=List.drop_eq_getElem_cons aD;have yx:bT.drop j=bT[j]::bT.drop (j+1):=List.drop_eq_getElem_cons hE;have mg:=hinv.d;rw[o6,yx,gl] at mg;obtain⟨g2,rfl,bC,d0,d1,d2⟩:=fG.d _ (ig.d.alloc (.cells #[q (l1[j].kind:Int),q l1[j].num,.string (a7 l1[j].du)] 112)) j hE;have WZ:¬g2=wr.heap.size:=r;have amn:¬g2=wr.heap.size+1:=r;have rO:=bH wr (.cells #[q (l1[j].kind:Int),q l1[j].num,.string (a7 l1[j].du)] 112);have yN:=(Below.heap_alloc (wr.alloc (.cells #[q (l1[j].kind:Int),q l1[j].num,.string (a7 l1[j].du)] 112)) (.cells #[q (bT[j].kind:Int),q bT[j].num,.string (a7 bT[j].du)] 112) wr.heap.size (by rw[cc];omega)).trans rO
    have ly:=bH (wr.alloc (.cells #[q (l1[j].kind:Int),q l1[j].num,.string (a7 l1[j].du)] 112)) (.cells #[q (bT[j].kind:Int),q bT[j].num,.string (a7 bT[j].du)] 112);rw[cc] at ly
    have sV:=u (show ey 79 #[.agg #[q (l1[j].kind:Int),q l1[j].num,.string (a7 l1[j].du)],.agg #[q (bT[j].kind:Int),q bT[j].num,.string (a7 bT[j].du)]] ((wr.alloc (.cells #[q (l1[j].kind:Int),q l1[j].num,.string (a7 l1[j].du)] 112)).alloc (.cells #[q (bT[j].kind:Int),q bT[j].num,.string (a7 bT[j].du)] 112)) (fun e w'=>e=.returned (q (jo l1[j] bT[j]))/\∃os,w'=Sort.grow (((wr.alloc (.cells #[q (l1[j].kind:Int),q l1[j].num,.string (a7 l1[j].du)] 112)).alloc (.cells #[q (bT[j].kind:Int),q bT[j].num,.string (a7 bT[j].du)] 112)).drewN 1) os) from(Me l1[j] bT[j] _).mono fun e w' ⟨x,os,y⟩=>⟨by rw[x,E9],os,y⟩)
    have Pf:=u ((ig.d.alloc (.cells #[q (l1[j].kind:Int),q l1[j].num,.string (a7 l1[j].du)] 112)).alloc (.cells #[q (bT[j].kind:Int),q bT[j].num,.string (a7 bT[j].du)] 112));have vt:IntKind.i64.wrap ((j:Int)+1)=(j:Int)+1:=mC;have iz:=u mg;have ch:=u ae;clear mg o6 yx ae hinv ig rO;go_upto_region 7 with fail;have c7:=Z yN (i:=0) rfl;have Y:=Z yN (i:=1) rfl;have bm:=Z ly (i:=0) rfl;have hq:=Z ly (i:=1) rfl;have am:=Z yN (i:=2) rfl;have ol:=Z ly (i:=2) rfl;clear yN ly;generalize ((wr.alloc (.cells #[q (l1[j].kind:Int),q l1[j].num,.string (a7 l1[j].du)] 112)).alloc (.cells #[q (bT[j].kind:Int),q bT[j].num,.string (a7 bT[j].du)] 112))=W at *;generalize jo l1[j] bT[j]=cm at *
    go_upto_region 8 with(go_at_fn 79;refine sV.d.mono ?_;rintro e aA ⟨rfl,os,aAI⟩;have Pg:=u aAI;clear aAI);have FT:Hid (hn w aA):=u (Pf.d.trans ⟨1,os,Pg.d⟩);clear sV;by_cases b1:cm=0
    ·have Ph:(cm==0)=true:=by rw[b1];rfl
     have mT:Hid (gl jo (l1.drop (j+1)) (bT.drop (j+1))=gh):=u (by have:=iz.d;rw[if_pos b1] at this;exact this);go_wp2_with fail;have ae:=ch.d;go_roundg (gk-1);case measure=>omega
     case rel=>exact⟨j+1,r,r,by go_num,mT,FT,r⟩
    ·have Ph:(cm==0)=false:=by rw[cV];exact b1
     have mT:Hid (cm=gh):=u (by have:=iz.d;rw[if_neg b1] at this;exact this);go_wp2_with fail;go_ret;exact⟨by rw[mT.d];rfl,FT.d⟩
   ·have uE:(bT.length:Int)<=(j:Int):=r;have bj:Hid (gh=1):=u (by
     have:=hinv.d;rw[List.drop_eq_getElem_cons aD,show bT.drop j=[] from List.drop_of_length_le r,gl] at this;exact this.symm)
    have pk:=u (ig.d.alloc (.cells #[q (l1[j].kind:Int),q l1[j].num,.string (a7 l1[j].du)] 112));clear hinv ae ig;go_wp2_with fail;go_ret;exact⟨by rw[bj.d];rfl,pk.d⟩
  ·have eZ:j=l1.length:=r;subst eZ;have cL:(l1.length:Int)<=(l1.length:Int):=r;by_cases hE:l1.length<bT.length
   ·have uE:(l1.length:Int)<(bT.length:Int):=r;have bj:Hid (gh = -1):=u (by
     have:=hinv.d;rw[show l1.drop l1.length=[] from List.drop_of_length_le ap,List.drop_eq_getElem_cons hE,gl] at this;exact this.symm)
    clear hinv ae;go_wp2_with fail;go_ret;exact⟨by rw[bj.d];rfl,ig.d⟩
   ·have uE:¬((l1.length:Int)<(bT.length:Int)):=r;have Pe:(bT.length:Int)<=(l1.length:Int):=r;have bj:Hid (gh=0):=u (by
     have:=hinv.d;rw[show l1.drop l1.length=[] from List.drop_of_length_le ap,show bT.drop l1.length=[] from List.drop_of_length_le r,gl] at this;exact this.symm)
    clear hinv ae;go_wp2_with fail;go_ret;exact⟨by rw[bj.d];rfl,ig.d⟩
def amo(bq a2:Option Addr)(c1 c2:Nat)(l1 bT:List fo)(w:World)(h1:w.ownsRow 0 40 2 (.slice bq l1.length c1) l1.length (l1.flatMap dX))(H:w.ownsRow 0 40 2 (.slice a2 bT.length c2) bT.length (bT.flatMap dX))(kz:l1.length<=1000000)(nu:bT.length<=1000000):ey 80 #[.slice bq l1.length c1,.slice a2 bT.length c2,.func (.func 81) #[] #[]] w fun e w'=>e=.returned (q (gl hf l1 bT))/\hn w w':=by
 have eX:=Vg;have gu:Hid (∀W,hn w W->∀j (h:j<l1.length),∃g,bq=some ⟨g,0,none⟩/\g<w.heap.size/\dp W g (j*2)=some (.string l1[j].1)/\dp W g (j*2+1)=some (q l1[j].2)):=u (fun W R j aS=>by
  obtain⟨g,e,X⟩:=vA h1 r;subst e;obtain⟨dN,bz,-,-⟩:=As h1 j aS;exact⟨g,rfl,X,(R.below.cell (p:=⟨g,j*2,none⟩) X).trans dN,(R.below.cell (p:=⟨g,j*2+1,none⟩) X).trans bz⟩)
 have fG:Hid (∀W,hn w W->∀j (h:j<bT.length),∃g,a2=some ⟨g,0,none⟩/\g<w.heap.size/\dp W g (j*2)=some (.string bT[j].1)/\dp W g (j*2+1)=some (q bT[j].2)):=u (fun W R j aS=>by
  obtain⟨g,e,X⟩:=vA H r;subst e;obtain⟨dN,bz,-,-⟩:=As H j aS;exact⟨g,rfl,X,(R.below.cell (p:=⟨g,j*2,none⟩) X).trans dN,(R.below.cell (p:=⟨g,j*2+1,none⟩) X).trans bz⟩)
 have Ix:Hid (∀W,hn w W->w.heap.size<=W.heap.size):=u (fun W R=>R.below.size);clear h1 H;generalize oF:gl hf l1 bT=gh at *;have ur:Hid (gl hf (l1.drop 0) (bT.drop 0)=gh):=u oF;clear oF;go_enter func80,ntmps80;go_upto_region 2 with fail;go_loopg [13] (l1.length+1) (fun U i wr=>∃j:Nat,j<=l1.length/\j<=bT.length/\i=q (j:Int)/\Hid (gl hf (l1.drop j) (bT.drop j)=gh)/\Hid (hn w wr)/\l1.length-j<U);case atStart=>exact⟨0,bu,bu,rfl,ur,u (hn.refl _),r⟩
 case round=>
  obtain⟨j,oE,kv,rfl,hinv,ig,ae⟩:=hrel;by_cases aD:j<l1.length
  ·have cL:(j:Int)<(l1.length:Int):=r;obtain⟨g1,rfl,dv,hr,cN⟩:=gu.d wr ig.d j aD;have ff:=Ix.d wr ig.d;have amm:¬g1=wr.heap.size:=r;by_cases hE:j<bT.length
   ·have uE:¬((bT.length:Int)<=(j:Int)):=r;have Pe:(j:Int)<(bT.length:Int):=r;have o6:l1.drop j=l1[j]::l1.drop (j+1):=List.drop_eq_getElem_cons aD;have yx:bT.drop j=bT[j]::bT.drop (j+1):=List.drop_eq_getElem_cons hE;have mg:=hinv.d;rw[o6,yx,gl] at mg;obtain⟨g2,rfl,bC,d0,d1⟩:=fG.d _ (ig.d.alloc (.cells #[.string l1[j].1,q l1[j].2] 40)) j hE;have WZ:¬g2=wr.heap.size:=r;have amn:¬g2=wr.heap.size+1:=r;have rO:=bH wr (.cells #[.string l1[j].1,q l1[j].2] 40);have yN:=(Below.heap_alloc (wr.alloc (.cells #[.string l1[j].1,q l1[j].2] 40)) (.cells #[.string bT[j].1,q bT[j].2] 40) wr.heap.size (by rw[cc];omega)).trans rO;have ly:=bH (wr.alloc (.cells #[.string l1[j].1,q l1[j].2] 40)) (.cells #[.string bT[j].1,q bT[j].2] 40);rw[cc] at ly
    have sV:=u (show ey 81 #[.agg #[.string l1[j].1,q l1[j].2],.agg #[.string bT[j].1,q bT[j].2]] ((wr.alloc (.cells #[.string l1[j].1,q l1[j].2] 40)).alloc (.cells #[.string bT[j].1,q bT[j].2] 40)) (fun e w'=>e=.returned (q (hf l1[j] bT[j]))/\∃os,w'=Sort.grow (((wr.alloc (.cells #[.string l1[j].1,q l1[j].2] 40)).alloc (.cells #[.string bT[j].1,q bT[j].2] 40)).drewN 1) os) from(Tt l1[j] bT[j] _).mono fun e w' ⟨x,os,y⟩=>⟨by rw[x,Ve],os,y⟩);have Pf:=u ((ig.d.alloc (.cells #[.string l1[j].1,q l1[j].2] 40)).alloc (.cells #[.string bT[j].1,q bT[j].2] 40));have vt:IntKind.i64.wrap ((j:Int)+1)=(j:Int)+1:=mC;have iz:=u mg;have ch:=u ae;clear mg o6 yx ae hinv ig rO;go_upto_region 7 with fail;have c7:=Z yN (i:=0) rfl;have Y:=Z yN (i:=1) rfl
    have bm:=Z ly (i:=0) rfl;have hq:=Z ly (i:=1) rfl;skip;clear yN ly;generalize ((wr.alloc (.cells #[.string l1[j].1,q l1[j].2] 40)).alloc (.cells #[.string bT[j].1,q bT[j].2] 40))=W at *;generalize hf l1[j] bT[j]=cm at *;go_upto_region 8 with(go_at_fn 81;refine sV.d.mono ?_;rintro e aA ⟨rfl,os,aAI⟩;have Pg:=u aAI;clear aAI);have FT:Hid (hn w aA):=u (Pf.d.trans ⟨1,os,Pg.d⟩);clear sV;by_cases b1:cm=0
    ·have Ph:(cm==0)=true:=by rw[b1];rfl
     have mT:Hid (gl hf (l1.drop (j+1)) (bT.drop (j+1))=gh):=u (by have:=iz.d;rw[if_pos b1] at this;exact this);go_wp2_with fail;have ae:=ch.d;go_roundg (gk-1);case measure=>omega
     case rel=>exact⟨j+1,r,r,by go_num,mT,FT,r⟩
    ·have Ph:(cm==0)=false:=by rw[cV];exact b1
     have mT:Hid (cm=gh):=u (by have:=iz.d;rw[if_neg b1] at this;exact this);go_wp2_with fail;go_ret;exact⟨by rw[mT.d];rfl,FT.d⟩
   ·have uE:(bT.length:Int)<=(j:Int):=r;have bj:Hid (gh=1):=u (by
     have:=hinv.d;rw[List.drop_eq_getElem_cons aD,show bT.drop j=[] from List.drop_of_length_le r,gl] at this;exact this.symm)
    have pk:=u (ig.d.alloc (.cells #[.string l1[j].1,q l1[j].2] 40));clear hinv ae ig;go_wp2_with fail;go_ret;exact⟨by rw[bj.d];rfl,pk.d⟩
  ·have eZ:j=l1.length:=r;subst eZ;have cL:(l1.length:Int)<=(l1.length:Int):=r;by_cases hE:l1.length<bT.length
   ·have uE:(l1.length:Int)<(bT.length:Int):=r;have bj:Hid (gh = -1):=u (by
     have:=hinv.d;rw[show l1.drop l1.length=[] from List.drop_of_length_le ap,List.drop_eq_getElem_cons hE,gl] at this;exact this.symm)
    clear hinv ae;go_wp2_with fail;go_ret;exact⟨by rw[bj.d];rfl,ig.d⟩
   ·have uE:¬((l1.length:Int)<(bT.length:Int)):=r;have Pe:(bT.length:Int)<=(l1.length:Int):=r;have bj:Hid (gh=0):=u (by
     have:=hinv.d;rw[show l1.drop l1.length=[] from List.drop_of_length_le ap,show bT.drop l1.length=[] from List.drop_of_length_le r,gl] at this;exact this.symm)
    clear hinv ae;go_wp2_with fail;go_ret;exact⟨by rw[bj.d];rfl,ig.d⟩
def amp(a b:Int):j5 [a,b]=if a=0 then b else a:=by
 unfold j5 j5 j5;split
 ·split<;>simp_all
 ·rfl
def amq(aC gb ci qe:Option Addr)(bA gd qf fd:Nat)(g1 g2:Value)(bf ij:Option Addr)(cl gc AJ uF:Nat)(dv:g1=.slice bf cl gc)(bC:g2=.slice ij AJ uF)(x y:h8)(w:World)(h1:w.ownsRow 0 112 3 (.slice aC x.1.length bA) x.1.length (fc x.1))(H:w.ownsRow 0 40 2 (.slice gb x.2.length gd) x.2.length (x.2.flatMap dX))(ab:w.ownsRow 0 112 3 (.slice ci y.1.length qf) y.1.length (fc y.1))(aK:w.ownsRow 0 40 2 (.slice qe y.2.length fd) y.2.length (y.2.flatMap dX))(X:x.1.length<=1000000/\x.2.length<=1000000/\y.1.length<=1000000/\y.2.length<=1000000):ey 43 #[.agg #[.slice aC x.1.length bA,g1,.slice gb x.2.length gd],.agg #[.slice ci y.1.length qf,g2,.slice qe y.2.length fd]] w fun e w'=>e=.returned (q (pg x y))/\hn w w':=by
 subst dv bC;have fb:Hid (∀W,hn w W->ey 78 #[.slice aC x.1.length bA,.slice ci y.1.length qf,.func (.func 79) #[] #[]] W fun e w'=>e=.returned (q (gl jo x.1 y.1))/\hn W w'):=u (fun W R=>aml aC ci bA qf x.1 y.1 W (by rw[Jj];exact ee h1 R.below) (by rw[Jj];exact ee ab R.below) X.1 X.2.2.1);have dy:Hid (∀W,hn w W->ey 80 #[.slice gb x.2.length gd,.slice qe y.2.length fd,.func (.func 81) #[] #[]] W fun e w'=>e=.returned (q (gl hf x.2 y.2))/\hn W w'):=u (fun W R=>amo gb qe gd fd x.2 y.2 W (ee H R.below) (ee aK R.below) X.2.1 X.2.2.2);have bK:Hid (pg x y=j5 [gl jo x.1 y.1,gl hf x.2 y.2]):=u (by rw[amp];rfl);rw[bK.d];clear h1 H ab aK bK;generalize gl jo x.1 y.1=lO at *;generalize gl hf x.2 y.2=rb at *
 generalize x.1.length=bM at *;generalize x.2.length=b9 at *;generalize y.1.length=dm at *;generalize y.2.length=nS at *;go_enter func43,ntmps43;go_upto_region 1 with fail;have bJ:=(Below.heap_alloc (w.alloc (.cells #[.slice aC bM bA,.slice bf cl gc,.slice gb b9 gd] 106)) (.cells #[.slice ci dm qf,.slice ij AJ uF,.slice qe nS fd] 106) w.heap.size (by rw[cc];omega)).trans (bH w (.cells #[.slice aC bM bA,.slice bf cl gc,.slice gb b9 gd] 106));have ah:=bH (w.alloc (.cells #[.slice aC bM bA,.slice bf cl gc,.slice gb b9 gd] 106)) (.cells #[.slice ci dm qf,.slice ij AJ uF,.slice qe nS fd] 106);rw[cc] at ah;have Pi:Hid (hn w ((w.alloc (.cells #[.slice aC bM bA,.slice bf cl gc,.slice gb b9 gd] 106)).alloc (.cells #[.slice ci dm qf,.slice ij AJ uF,.slice qe nS fd] 106))):=u (((hn.refl w).alloc _).alloc _)
 generalize ((w.alloc (.cells #[.slice aC bM bA,.slice bf cl gc,.slice gb b9 gd] 106)).alloc (.cells #[.slice ci dm qf,.slice ij AJ uF,.slice qe nS fd] 106))=W at *;generalize w.heap.size=aB at *;have c1:=Z bJ (i:=0) rfl;have c2:=Z bJ (i:=2) rfl;have dZ:=Z ah (i:=0) rfl;have gp:=Z ah (i:=2) rfl;have hA1:=(br bJ).1;have hA2:=(br ah).1;have gy:Hid (∀aU,hn W aU->dp aU aB 0=some (.slice aC bM bA)/\dp aU aB 2=some (.slice gb b9 gd)/\dp aU (aB+1) 0=some (.slice ci dm qf)/\dp aU (aB+1) 2=some (.slice qe nS fd)):=u (fun aU R=>⟨(R.below.cell (p:=⟨aB,0,none⟩) hA1).trans c1,(R.below.cell (p:=⟨aB,2,none⟩) hA1).trans c2,(R.below.cell (p:=⟨aB+1,0,none⟩) hA2).trans dZ,(R.below.cell (p:=⟨aB+1,2,none⟩) hA2).trans gp⟩)
 have gu:Hid (ey 78 #[.slice aC bM bA,.slice ci dm qf,.func (.func 79) #[] #[]] W.drew fun e J=>e=.returned (q lO)/\(dp J aB 0=some (.slice aC bM bA)/\dp J aB 2=some (.slice gb b9 gd)/\dp J (aB+1) 0=some (.slice ci dm qf)/\dp J (aB+1) 2=some (.slice qe nS fd))/\Hid (ey 80 #[.slice gb b9 gd,.slice qe nS fd,.func (.func 81) #[] #[]] J fun e S=>e=.returned (q rb)/\(dp S aB 0=some (.slice aC bM bA)/\dp S aB 2=some (.slice gb b9 gd)/\dp S (aB+1) 0=some (.slice ci dm qf)/\dp S (aB+1) 2=some (.slice qe nS fd))/\Hid (hn w S))):=u (by
  have bb:hn W W.drew:=(hn.refl W).drew;refine(fb.d W.drew (Pi.d.trans bb)).mono ?_;rintro e J ⟨rfl,g1⟩;refine⟨rfl,gy.d J (bb.trans g1),u ?_⟩;refine(dy.d J ((Pi.d.trans bb).trans g1)).mono ?_;rintro e S ⟨rfl,g2⟩;exact⟨rfl,gy.d S ((bb.trans g1).trans g2),u (((Pi.d.trans bb).trans g1).trans g2)⟩)
 clear bJ ah fb dy hA1 hA2;go_region_held3 (fun w'=>w'.cell? ⟨aB,0,none⟩=some (.slice aC bM bA)/\w'.cell? ⟨aB,2,none⟩=some (.slice gb b9 gd)/\w'.cell? ⟨aB+1,0,none⟩=some (.slice ci dm qf)/\w'.cell? ⟨aB+1,2,none⟩=some (.slice qe nS fd)) (go_keep) (first
  | (go_at_call 77;refine(Lt [lO,rb] S.heap.size 2 _ (by simp) (fun i hi=>by
   match i,hi with
   | 0,_=>exact Z (bH S (.cells #[.int .i64 lO,.int .i64 rb] 3)) (i:=0) rfl
   | 1,_=>exact Z (bH S (.cells #[.int .i64 lO,.int .i64 rb] 3)) (i:=1) rfl)).mono ?_;rintro e uZ ⟨rfl,rfl⟩)
  | (go_at_call 80;refine gQ.d.mono ?_;rintro e S ⟨rfl,⟨t1,t2,t3,t4⟩,lm⟩)
  | (go_at_call 78;refine gu.d.mono ?_;rintro e J ⟨rfl,⟨cX,cA,AV,Ch⟩,gQ⟩))
 all_goals
  go_wp2_with fail;go_ret;exact⟨rfl,lm.d.alloc _⟩
abbrev lE:=Value×Value×Value
def lF(p:lE×h8):List Value:=[p.1.1,p.1.2.1,p.1.2.2]
def l6(w:World)(p:lE×h8):Prop:=∃aC bA bf cl gc gb gd,p.1=(.slice aC p.2.1.length bA,.slice bf cl gc,.slice gb p.2.2.length gd)/\w.ownsRow 0 112 3 (.slice aC p.2.1.length bA) p.2.1.length (fc p.2.1)/\w.ownsRow 0 40 2 (.slice gb p.2.2.length gd) p.2.2.length (p.2.2.flatMap dX)/\p.2.1.length<=1000000/\p.2.2.length<=1000000
def l6.a8{p:lE×h8}(h:l6 w p)(hk:∀(k:Nat) (cs:Array Value) (t:TypeId),t≠106->w.heap[k]?=some (.cells cs t (0,0))->w'.heap[k]?=w.heap[k]?):l6 w' p:=by obtain⟨aC,bA,bf,cl,gc,gb,gd,e,cX,cA,l1,bT⟩:=h;exact⟨aC,bA,bf,cl,gc,gb,gd,e,ph cX (fun k A=>by obtain⟨_,cs,e⟩:=hD cX A;exact hk k cs _ K e),ph cA (fun k A=>by obtain⟨_,cs,e⟩:=hD cA A;exact hk k cs _ K e),l1,bT⟩
def amr:∀args w,(callFunc 43 args).run prog w=.ok (.enter 43 args) w:=enters_of func43 ax rfl
def ams(w:World):(isAgg 106).run prog w=.ok true w:=ax
def amt(w:World):(Go.sizeOf 106).run prog w=.ok 3 w:=ax
def amu(v:Value)(l:List (lE×h8))(base:Nat)(w:World)(ag:w.ownsRow base 106 3 v l.length (l.flatMap lF))(X:l.length<=1000000000)(ct:∀p∈l,l6 w p):ey 42 #[v,.func (.func 43) #[] #[]] w fun e w'=>e=.returned (.tuple #[])/\∃lZ:List (lE×h8),lZ.map (·.2)=kM pg (l.map (·.2))/\(∀p∈lZ,l6 w' p)/\w'.ownsRow base 106 3 v lZ.length (lZ.flatMap lF)/\Below base w w':=by
 have Az:kM pg ([]:List h8)=[]:=by unfold kM;simp
 rcases ag.2 with⟨rfl,aY⟩ | ⟨g,af,ay,rfl,q1,bN,_⟩
 ·have rn:l=[]:=ma aY;subst rn;refine(show ey 42 #[.slice none 0 0,.func (.func 43) #[] #[]] w _ from AnyF.slices_SortFunc_none Tryz.M5 none 0 _ w).mono ?_;rintro e w' ⟨rfl,rfl⟩;exact⟨rfl,[],by rw[List.map_nil,Az],fun p aj=>(by cases aj),ag,Below.refl _ _⟩
 ·by_cases aY:l.length=0
  ·have rn:l=[]:=ma aY;subst rn;refine(show ey 42 #[.slice (some ⟨g,0,none⟩) 0 af,.func (.func 43) #[] #[]] w _ from AnyF.slices_SortFunc_none Tryz.M5 (some ⟨g,0,none⟩) af _ w).mono ?_;rintro e w' ⟨rfl,rfl⟩;exact⟨rfl,[],by rw[List.map_nil,Az],fun p aj=>(by cases aj),ag,Below.refl _ _⟩
  ·have GX:0<l.length:=r;letI:Inhabited {p:lE×h8 // l6 w p}:=⟨⟨l[0],ct _ (ec GX)⟩⟩
   have dl:(l.attach.map fun p=>(⟨p.1,ct p.1 p.2⟩:{p:lE×h8 // l6 w p})).map (·.1)=l:=by rw[List.map_map];exact List.attach_map_subtype_val l
   generalize BG:(l.attach.map fun p=>(⟨p.1,ct p.1 p.2⟩:{p:lE×h8 // l6 w p}))=xg at dl;have W0:∀m:List {p:lE×h8 // l6 w p},m.flatMap (fun p=>lF p.1)=(m.map (·.1)).flatMap lF:=fun m=>by rw[List.flatMap_map]
   have b7:xg.length=l.length:=by rw[<-dl,cZ]
   have tw:w.ownsRow base 106 3 (.slice (some ⟨g,0,none⟩) xg.length af) xg.length (xg.flatMap fun p=>lF p.1):=by rw[W0,dl,b7];exact ag
   obtain⟨hH,R⟩:=Uy (fun p:{p:lE×h8 // l6 w p}=>lF p.1) 3 K (fun _=>rfl) tw;have Cu:∀(n:Nat) (aq:Array {p:lE×h8 // l6 w p}) (os:Array Obj) (k:Nat) (cs:Array Value) (t:TypeId),t≠106->w.heap[k]?=some (.cells cs t (0,0))->(sortWorldK (fun p:{p:lE×h8 // l6 w p}=>lF p.1) 3 w g 0 n aq os).heap[k]?=w.heap[k]?:=fun n aq os k cs t au e=>(Uw (n:=n) bN _ 3 aq os).2 k (oH e bN au) (br e).1;have GV:CmpLays prog 43 #[] (fun p:{p:lE×h8 // l6 w p}=>lF p.1) 3 (fun x y=>pg x.1.2 y.1.2) g 0 xg.toArray.size w:=by
    rintro m os nQ hs ⟨⟨bz,cz⟩,aa⟩ ⟨⟨h0,gR⟩,hy⟩;obtain⟨aC,bA,bf,cl,gc,gb,gd,Y,cX,cA,l1,bT⟩:=l6.a8 aa (Cu m nQ os);obtain⟨ci,qf,ij,AJ,uF,qe,fd,am,AV,Ch,xT,s9⟩:=l6.a8 hy (Cu m nQ os);simp only[] at Y am;subst Y am;exact amq aC gb ci qe bA gd qf fd _ _ bf ij cl gc AJ uF rfl rfl cz gR _ cX cA AV Ch ⟨l1,bT,xT,s9⟩
   have tZ:∀(x:{p:lE×h8 // l6 w p}),∀v∈lF x.1,v.oneCell'=true:=by rintro⟨⟨bz,cz⟩,aC,bA,bf,cl,gc,gb,gd,Y,_⟩ v hv;simp only[] at Y;subst Y;unfold lF at hv;simp only[List.mem_cons,ax4,or_false] at hv;rcases hv with rfl | rfl | rfl<;>rfl
   have Iz:=AnyQ.slices_SortFunc Tryz.M5 3 ams amt (fun p:{p:lE×h8 // l6 w p}=>lF p.1) (fun _=>rfl) tZ (fun x y=>pg x.1.2 y.1.2) (Vf (wO UG (fun x:{p:lE×h8 // l6 w p}=>x.1.2))) 43 #[] g 0 af xg.toArray w amr GV hH R (by simp;omega);rw[show xg.toArray.size=l.length by simpa using b7] at Iz;refine(show ey 42 #[.slice (some ⟨g,0,none⟩) l.length af,.func (.func 43) #[] #[]] w _ from Iz).mono ?_;rintro e w' ⟨rfl,iA,n,os,aj,hs,rfl⟩;have ff:xg.toArray.size=l.length:=by simpa using b7
   rw[<-ff] at aj hs;obtain⟨p1,p2⟩:=Vh aj hs;have Pj:iA.toList.Perm xg:=by simpa using p1
   have IC:(iA.toList.map fun p=>p.1.2)=kM pg (l.map (·.2)):=by
    refine UI UG (fun _ _=>ahO) ?_ ?_
    ·rw[<-dl,List.map_map];exact Pj.map _
    ·unfold Ak at p2 ⊢;rw[List.pairwise_map];exact p2
   obtain⟨cX,cA⟩:=Ux (fun p:{p:lE×h8 // l6 w p}=>lF p.1) 3 K (fun _=>rfl) (n:=n) tw iA rfl Pj.length_eq os;refine⟨rfl,iA.toList.map (·.1),by rw[List.map_map];exact IC,fun p AK=>?_,?_,cA⟩
   ·obtain⟨U,_,rfl⟩:=List.mem_map.1 AK;exact U.2.a8 (Cu n iA os)
   ·rw[cZ,Pj.length_eq,b7,<-W0];rw[b7] at cX;exact cX
abbrev l7:=e4×List fo
variable{out:List l7}
def CH(p:Value×Value):List Value:=[p.1,p.2]
def fW(base:Nat)(w:World)(v:Value)(out:List l7):Prop:=∃bE:List (Value×Value),w.ownsRow base 37 2 v bE.length (bE.flatMap CH)/\bE.length=out.length/\∀i (h1:i<bE.length) (H:i<out.length),w.ownsRow base 9 1 bE[i].1 out[i].1.length (out[i].1.map Value.string)/\w.ownsRow 0 40 2 bE[i].2 out[i].2.length (out[i].2.flatMap dX)
def fW.below(h:fW base w v out)(A:eB w w'):fW base w' v out:=by obtain⟨bE,h1,H,ab⟩:=h;exact⟨bE,ee h1 A,H,fun i a b=>⟨ee (ab i a b).1 A,ee (ab i a b).2 A⟩⟩
def amv:(prog.info? 37).map (fun i=>(i.zero,i.size,i.bytes))=some (some (.agg #[.slice none 0 0,.slice none 0 0]),2,48):=ax
def fW.push{kr:Value}{x:l7}(h:fW base w v out)(A:base<=w.heap.size)(X:out.length<=1000000)(au:w.ownsRow base 9 1 aE x.1.length (x.1.map Value.string))(av:w.ownsRow 0 40 2 kr x.2.length (x.2.flatMap dX)):∃a n c w',(∀ty,(Builtin.append_ #[28,28] ty #[v,.slice (some ⟨w.heap.size,0,none⟩) 1 1]).run prog (w.alloc (.cells #[aE,kr] 37))=.ok (.slice a n c) w')/\fW base w' (.slice a n c) (out++[x])/\Below base w w':=by
 obtain⟨bE,h1,H,ab⟩:=h;obtain⟨bt,bD,rfl⟩:=cG au;obtain⟨gb,gd,rfl⟩:=cG av;obtain⟨cF,w',ag,an,R,fq⟩:=ug underlying28 amv rfl K K h1 #[.slice bt x.1.length bD,.slice gb x.2.length gd] rfl (by simp[Value.oneCell']) r A;obtain⟨a,c,rfl⟩:=cG an;have dI:=(Below.refl w.heap.size w).alloc ap (.cells #[.slice bt x.1.length bD,.slice gb x.2.length gd] 37);have key:∀(k:Nat) (cs:Array Value) (t:TypeId),t≠37->w.heap[k]?=some (.cells cs t (0,0))->w'.heap[k]?=w.heap[k]?:=fun k cs t au e=>(R.block k (e0 (br e).1 dI.size) (fun pU=>by
  obtain⟨_,fU,bo⟩:=hD h1 pU.symm;exact oH e bo au rfl)).trans (dI.block k (br e).1)
 have nf:∀{lo size n:Nat} {E:TypeId} {bp:Value} {xs:List Value},E≠37->w.ownsRow lo E size bp n xs->w'.ownsRow lo E size bp n xs:=fun eU hu=>ph hu (fun k hk=>by obtain⟨_,cs,e⟩:=hD hu hk;exact key k cs _ eU e);refine⟨a,_,c,w',ag,⟨bE++[(.slice bt x.1.length bD,.slice gb x.2.length gd)],?_,?_,fun i bq cN=>?_⟩,(dI.mono A).grown R (by rw[cc];omega) (fun k e=>(h1.lt k e).1)⟩
 ·rw[cu,List.flatMap_append];simpa [CH] using an
 ·rw[cu,cu,H];rfl
 ·by_cases hi:i<bE.length
  ·have kA:i<out.length:=r;simp only[List.getElem_append_left hi,List.getElem_append_left kA];exact⟨nf K (ab i hi kA).1,nf K (ab i hi kA).2⟩
  ·have kA:i=bE.length:=by rw[cu] at bq;simp at bq;omega
   subst kA;have o3:(bE++[(Value.slice bt x.1.length bD,Value.slice gb x.2.length gd)])[bE.length]'bq=(Value.slice bt x.1.length bD,Value.slice gb x.2.length gd):=by rw[List.getElem_append_right ap];simp
   have bQ:(out++[x])[bE.length]'cN=x:=by rw[List.getElem_append_right r];simp
   rw[o3,bQ];exact⟨nf K au,nf K av⟩
def amw:(prog.info? 9).map (fun i=>(i.zero,i.size,i.bytes))=some (some (.string ⟨#[]⟩),1,16):=ax
def amx{ay:Array Value}{l:List Value}(x:Value)(h:ay.toList.take j=l)(hs:ay.size=n)(aS:j<n):(ay.setIfInBounds j x).toList.take (j+1)=l++[x]/\(ay.setIfInBounds j x).size=n:=by refine⟨?_,by rw[Array.size_setIfInBounds];exact hs⟩;rw[Array.toList_setIfInBounds,jD (by rw[List.length_set,ax7];omega),List.getElem_set_self,List.take_set_of_le ap,h]
def nF(a:h8):l7:=(a.1.map fun v=>a7 (iI v),a.2)
def W1{l:List (lE×h8)}(h:w.ownsRow lo 106 3 (.slice a l.length c) l.length (l.flatMap lF))(i:Nat)(hi:i<l.length):∃g,a=some ⟨g,0,none⟩/\g<w.heap.size/\dp w g (i*3)=some l[i].1.1/\dp w g (i*3+1)=some l[i].1.2.1/\dp w g (i*3+2)=some l[i].1.2.2:=by
 obtain⟨g,e,R⟩:=vA h r;subst e;letI:Inhabited (lE×h8):=⟨l[i]⟩
 have aw:=sP lF 3 K (fun _=>rfl) l (i*3) r;have h1:=sP lF 3 K (fun _=>rfl) l (i*3+1) r;have H:=sP lF 3 K (fun _=>rfl) l (i*3+2) r;rw[show i*3/3=i by omega,show i*3%3=0 by omega,getElem!_pos l i hi] at aw;rw[show(i*3+1)/3=i by omega,show(i*3+1)%3=1 by omega,getElem!_pos l i hi] at h1;rw[show(i*3+2)/3=i by omega,show(i*3+2)%3=2 by omega,getElem!_pos l i hi] at H;have bk:=h.cells rfl _ _ aw;have c1:=h.cells rfl _ _ h1;have c2:=h.cells rfl _ _ H;rw[Addr.add_lit,ax1] at bk c1 c2;exact⟨g,rfl,R,bk,c1,c2⟩
def amy(v:Value)(l:List (lE×h8))(w:World)(au:kQ w)(ag:w.ownsRow 0 106 3 v l.length (l.flatMap lF))(X:l.length<=100000)(ct:∀p∈l,l6 w p/\∀x∈p.2.1,fv x):ey 44 #[v] w fun e w'=>∃cF,e=.returned cF/\fW w.heap.size w' cF (l.map fun p=>nF p.2)/\Below w.heap.size w w':=by
 obtain⟨eL,rc,rfl⟩:=cG ag;have e9:Hid (∀W,Below w.heap.size w W->∀i (hi:i<l.length),∃g,eL=some ⟨g,0,none⟩/\g<w.heap.size/\dp W g (i*3)=some l[i].1.1/\dp W g (i*3+1)=some l[i].1.2.1/\dp W g (i*3+2)=some l[i].1.2.2):=u (fun W A i hi=>by
  obtain⟨g,e,R,bk,c1,c2⟩:=W1 ag i hi;exact⟨g,e,R,(A.cell (p:=⟨g,i*3,none⟩) R).trans bk,(A.cell (p:=⟨g,i*3+1,none⟩) R).trans c1,(A.cell (p:=⟨g,i*3+2,none⟩) R).trans c2⟩)
 have zK:Hid (∀i (hi:i<l.length),l6 w l[i]/\∀x∈l[i].2.1,fv x):=u (fun i hi=>ct _ (ec hi));have dy:=u au;obtain⟨i0,nM,gj,gx,cd⟩:=info_parts amw;have w7:Hid (∀j (h:j<l.length),(l.take (j+1)).map (fun p=>nF p.2)=(l.take j).map (fun p=>nF p.2)++[nF l[j].2]):=u (fun j aS=>by rw[jD aS,List.map_append];rfl);have wN:Hid (∀j,j<=l.length->((l.take j).map (fun p=>nF p.2)).length<=1000000):=u (fun j aS=>by rw[cZ,List.length_take];omega);have nC:Hid ((l.take l.length).map (fun p=>nF p.2)=l.map fun p=>nF p.2):=u (by rw[List.take_length]);clear ag ct au;go_enter func44,ntmps44;go_upto_region 3 with fail
 go_loopg [3,11] (l.length+1) (fun U amz i wr=>∃j:Nat,j<=l.length/\i=q (j:Int)/\Hid (fW w.heap.size wr amz ((l.take j).map fun p=>nF p.2))/\Hid (Below w.heap.size w wr)/\l.length-j<U);case atStart=>exact⟨0,bu,rfl,u ⟨[],World.ownsRow_nil _ _ _ _,rfl,fun i h=>absurd h (fp _)⟩,u (Below.refl _ _),r⟩
 case round=>
  obtain⟨j,aS,rfl,vB,bc,ae⟩:=hrel;by_cases aD:j<l.length
  ·have cL:(j:Int)<(l.length:Int):=r;obtain⟨g,rfl,R,bk,c1,c2⟩:=e9.out wr bc.out j aD;obtain⟨⟨aC,bA,bf,cl,gc,gb,gd,CI,cX,cA,l1,bT⟩,uA⟩:=zK.out j aD;have mo:=u (w7.out j aD);have vt:IntKind.i64.wrap ((j:Int)+1)=(j:Int)+1:=mC;have Pk:=bc.out.size;have wU:¬g=wr.heap.size:=r;rw[CI] at bk c1 c2;simp only[] at bk c1 c2;have qD:=u cX;have gJ:=u cA;have x8:=u uA;have ch:=u ae;have sz:=u aD;have zJ:(0:Int)<=(l[j].2.1.length:Int):=r;clear cX cA uA CI ae;generalize l[j].2=P at *;clear aD;obtain⟨lD,xh⟩:=P;simp only[] at *;have Ae:i0.bytes*lD.length<=281474976710656:=by rw[cd];omega
   have wG:lD.length<=maxLen:=by unfold maxLen;omega
   generalize W2:lD.length=qg at *;have Pl:=u W2;clear W2;go_upto_region 5 with fail;have dF:Below wr.heap.size wr (wr.alloc (.cells #[.slice aC qg bA,.slice bf cl gc,.slice gb xh.length gd] 106)):=cT;have aO:=bH wr (.cells #[.slice aC qg bA,.slice bf cl gc,.slice gb xh.length gd] 106);have za:=u aO;have kO:Hid (Below w.heap.size w (wr.alloc (.cells #[.slice aC qg bA,.slice bf cl gc,.slice gb xh.length gd] 106))):=u (bc.out.trans (dF.mono Pk));have AL:=u (vB.out.below dF);have pM:=Z aO (i:=0) rfl;have gR:=Z aO (i:=2) rfl;clear bk c1 c2 aO dF vB bc;generalize wr.alloc (.cells #[.slice aC qg bA,.slice bf cl gc,.slice gb xh.length gd] 106)=W at *;generalize wr.heap.size=aB at *;have qG:aB<W.heap.size:=(br za.out).1
   go_upto_region 6 with(refine wpList_make_full W rfl _ _ 34 rfl W.heap.size 9 i0 _ 1 underlying34 nM gj gx _ _ _ _ qg rfl rfl rfl rfl Ae wG ap ?_;rintro J zA oX);obtain⟨zI,dG,dV⟩:∃ay,J.heap[W.heap.size]?=some (.cells ay 9 (0,0))/\ay.size=qg:=by
    rcases zA.2 with⟨e,_⟩ | ⟨g,af,ay,e,_,bN,_,_,j4,_⟩
    ·cases e
    ·injection e with Y am bm;injection Y with Y;injection Y with Y;subst Y bm;exact⟨ay,bN,r⟩
   have bJ:Below W.heap.size W J:=⟨oX.os,oX.tape,oX.output,oX.size,fun k hk=>oX.block k hk (by simp)⟩;have qN:=u bJ;have UY:dp J aB 0=some (.slice aC qg bA):=(bJ.cell (p:=⟨aB,0,none⟩) qG).trans pM;have gu:Hid (∃ay:Array Value,J.heap[W.heap.size]?=some (.cells ay 9 (0,0))/\ay.size=qg/\ay.toList.take 0=((lD.take 0).map fun v=>a7 (iI v)).map Value.string):=u ⟨zI,dG,dV,by simp⟩;clear zA oX dG dV bJ pM gR;go_upto_region 7 with fail;obtain⟨FR,rfl⟩:∃x,x=gk:=⟨gk,rfl⟩;go_loopg [22] (qg+1) (fun bN i wr=>∃aq:Nat,aq<=qg/\i=q (aq:Int)/\Hid (Below W.heap.size W wr)/\Hid (∃ay:Array Value,wr.heap[W.heap.size]?=some (.cells ay 9 (0,0))/\ay.size=qg/\ay.toList.take aq=((lD.take aq).map fun v=>a7 (iI v)).map Value.string)/\qg-aq<bN)
   case atStart=>exact⟨0,bu,rfl,qN,gu,r⟩
   case round=>
    obtain⟨aq,bb,rfl,k7,Jk,kL⟩:=hrel;by_cases hE:aq<qg
    ·have uE:(aq:Int)<(qg:Int):=r;have CE:aq<lD.length:=by rw[Pl.out];exact hE
     have hK:Below w.heap.size w wr:=kO.out.trans (k7.out.mono kO.out.size);obtain⟨g2,HC,bC⟩:=vA qD.out r;subst HC;obtain⟨v0,v1,v2⟩:=wu lD aq CE;have dN:=qD.out.cells rfl _ _ v0;have bz:=qD.out.cells rfl _ _ v1;have cz:=qD.out.cells rfl _ _ v2;rw[Addr.add_lit,ax1] at dN bz cz;have z0:=(hK.cell (p:=⟨g2,aq*3,none⟩) bC).trans dN;have b3:=(hK.cell (p:=⟨g2,aq*3+1,none⟩) bC).trans bz;have z2:=(hK.cell (p:=⟨g2,aq*3+2,none⟩) bC).trans cz;have NG:=x8.out _ (ec CE);obtain⟨ay,aI,aZ,a6⟩:=Jk.out;have Ap:=hK.size;have amA:=k7.out.size;have WZ:¬g2=wr.heap.size:=r;have A7:W.heap.size<wr.heap.size:=(br aI).1;have aiv:¬W.heap.size=wr.heap.size:=r
     have wL:Hid (((lD.take (aq+1)).map fun v=>a7 (iI v)).map Value.string=((lD.take aq).map fun v=>a7 (iI v)).map Value.string++[.string (a7 (iI lD[aq]))]):=u (by rw[jD CE,List.map_append,List.map_append];rfl);have amB:ay[aq]?=some (ay[aq]'r):=Array.getElem?_eq_getElem _;have IF:Hid (kQ wr):=u (dy.out.a8 (hK.block _ dy.out.lt));have amC:=u NG;have FM:=u (And.intro aI (And.intro aZ a6));have AB:=u k7.out;have atf:IntKind.i64.wrap ((aq:Int)+1)=(aq:Int)+1:=mC;have wY:=u kL;have atg:(0:Int)<=(aq:Int):=r;generalize ay[aq]'r=amD at *;clear v0 v1 v2 dN bz cz NG kL Jk aI aZ a6 k7 hK;generalize lD[aq]=x at *;go_upto_region 9 with fail;have dF:=(Below.refl wr.heap.size wr).alloc ap (.cells #[q (x.kind:Int),q x.num,.string (a7 x.du)] 112)
     have Jl:=bH wr (.cells #[q (x.kind:Int),q x.num,.string (a7 x.du)] 112);have t0:=Z Jl (i:=0) rfl;have t1:=Z Jl (i:=1) rfl;have t2:=Z Jl (i:=2) rfl;have OH:Hid (ey 82 #[.agg #[q (x.kind:Int),q x.num,.string (a7 x.du)]] (wr.alloc (.cells #[q (x.kind:Int),q x.num,.string (a7 x.du)] 112)) fun e aA=>e=.returned (.string (a7 (iI x)))/\dp aA W.heap.size aq=some amD/\aA.frozen? ⟨W.heap.size,aq,none⟩=false/\Hid (Below wr.heap.size wr aA)):=u ((V8 x amC.out _ (IF.out.below dF)).mono (by
      rintro e aA ⟨rfl,cg⟩;have lM:=dF.trans (cg.mono dF.size);have hk:=(lM.block W.heap.size A7).trans FM.out.1;exact⟨rfl,Z hk amB,aQ hk,u lM⟩))
     clear z0 b3 z2 Jl;generalize wr.alloc (.cells #[q (x.kind:Int),q x.num,.string (a7 x.du)] 112)=ath at *;generalize ati:a7 (iI x)=amE at *;go_wp2_with (go_at_call 82;refine OH.out.mono ?_;rintro e aA ⟨rfl,nc,s1,cg⟩);have kL:=wY.out;go_roundg (gk-1);case measure=>omega
     case rel=>obtain⟨aI,aZ,a6⟩:=FM.out;obtain⟨amF,amG⟩:=amx (.string amE) a6 aZ hE;refine⟨aq+1,r,by go_num,u ((AB.out.trans (cg.out.mono amA)).setCell (p:=⟨W.heap.size,aq,none⟩) ap _),u ⟨_,hc ((cg.out.block W.heap.size A7).trans aI) _,amG,by rw[wL.out];exact amF⟩,r⟩
    ·have Ah:aq=qg:=r;subst Ah;have uE:(aq:Int)<=(aq:Int):=r;obtain⟨ay,aI,aZ,a6⟩:=Jk.out;have gR:dp wr aB 2=some (.slice gb xh.length gd):=(k7.out.cell (p:=⟨aB,2,none⟩) qG).trans (Z za.out (i:=2) rfl);have hK:Below w.heap.size w wr:=kO.out.trans (k7.out.mono kO.out.size);have W3:wr.ownsRow w.heap.size 9 1 (.slice (some ⟨W.heap.size,0,none⟩) aq aq) (nF (lD,xh)).1.length ((nF (lD,xh)).1.map Value.string):=by
      have Jm:(nF (lD,xh)).1.length=aq:=by show(lD.map _).length=aq;rw[cZ,Pl.out]
      rw[Jm];refine⟨by rw[cZ,Jm,Nat.mul_one],.inr ⟨W.heap.size,aq,ay,rfl,kO.out.size,aI,ap,wG,by rw[aZ,Nat.mul_one],?_⟩⟩;rw[Nat.mul_one,a6];show _=(lD.map _).map Value.string;rw[List.take_of_length_le (by rw[Pl.out];exact ap)]
     obtain⟨hl,e2,iL,bh,p1,p2,fw⟩:=(AL.out.below k7.out).push (x:=nF (lD,xh)) hK.size (wN.out j aS) W3 (ee gJ.out hK);rw[<-mo.out] at p2;have qa:=u p1;have xf:=u p2;have ua:=u (hK.trans fw);obtain⟨bE,jH,-⟩:=id AL.out;obtain⟨dc,de,AM⟩:=cG jH;subst AM;generalize bE.length=atj at *;clear p1 p2 fw W3 Jk k7 aI aZ a6 kL jH hK;go_wp2_with (at_builtin;refine Lib.wpList_append_run _ rfl _ _ _ _ rfl _ _ rfl rfl _ _ (qa.out _) ?_);have ae:=ch.out;have BE:=sz.out;go_roundg (FR-1);case measure=>omega
     case rel=>exact⟨j+1,r,by go_num,xf,ua,r⟩
  ·have eZ:j=l.length:=r;subst eZ;have cL:(l.length:Int)<=(l.length:Int):=r;have xO:Hid (fW w.heap.size wr _ (l.map fun p=>nF p.2)):=u (by have:=vB.out;rw[nC.out] at this;exact this);clear ae;go_wp2_with fail;go_ret;exact⟨_,rfl,xO.out,bc.out⟩
def nG:az:=⟨[],[],0,false⟩
def Uq(bd:List bG)(O:Int)(t:aL):Bool:=!(bR bd O t [] nG).2.1.isEmpty||(bR bd O t [] nG).2.2.dE
structure uG (F:Nat->Prop) (td:List eb) (bd:List bG) (O:Int) (t:aL) (lo hi b:Nat) (aE:Value) (w:World):Prop where
 fit:nW bd
 rel:oJ td bd
 bM : -1000000000000<=O
 b9:O<=1000000000000
 uF:aJ t 2
 W4:mr t
 vc:3*nq t<=900
 amH:F 2
 vC:kQ w
 at_:dK td w t [] lo hi [M b]
 B:p3 F w aE bd
 fH:∀k,F k->k<w.heap.size
def uG.below{F:Nat->Prop}{td:List eb}{bd:List bG}{O:Int}{t:aL}{lo hi b:Nat}{aE:Value}{w w':World}(h:uG F td bd O t lo hi b aE w)(A:Below w.heap.size w w'):uG F td bd O t lo hi b aE w':={h with vC:=h.vC.below A,at_:=h.at_.below A,B:=h.B.move (fun k hk av=>⟨av,A.block k hk⟩),fH:=fun k hk=>e0 (h.fH k hk) A.size}
def amI{bd:List bG}(h:uG F td bd O t lo hi b aE w):aM F (w.alloc (.cells #[aE,q O,.slice none 0 0,.slice none 0 0,q 0,.bool false] 95)) w.heap.size none bd O false nG:=by have A:=(Below.refl w.heap.size w).alloc ap (.cells #[aE,q O,.slice none 0 0,.slice none 0 0,q 0,.bool false] 95);refine⟨fun k hk=>e0 (h.fH k hk) A.size,fun k hk=>⟨by have:=h.fH k hk;omega,by simp⟩,aE,.slice none 0 0,none,0,0,[],bH w _,h.B.move (fun k hk av=>⟨av,A.block k hk⟩),World.ownsRow_nil _ _ _ _,rfl,?_,fun x=>by cases x⟩;trivial
def amJ{bd:List bG}(h:uG F td bd O t lo hi b aE w):ey 40 #[M w.heap.size,M b] (w.alloc (.cells #[aE,q O,.slice none 0 0,.slice none 0 0,q 0,.bool false] 95)) fun e w'=>∃hI aF,e=.returned hI/\aM F w' w.heap.size aF bd O false (bR bd O t [] nG).2.2/\Below w.heap.size w w'/\l5 F w.heap.size (w.heap.size+1) aF w' hI (bR bd O t [] nG).2.1/\w.heap.size+1<=w'.heap.size:=by
 have A:=(Below.refl w.heap.size w).alloc ap (.cells #[aE,q O,.slice none 0 0,.slice none 0 0,q 0,.bool false] 95);have hs:(w.alloc (.cells #[aE,q O,.slice none 0 0,.slice none 0 0,q 0,.bool false] 95)).heap.size=w.heap.size+1:=cc _ _;have av:=h.vc;have:=(ame h.fit h.rel h.bM h.b9 (cp t) t ap).2 F w.heap.size none [] _ lo hi b nG 0 h.uF h.W4 (by simpa using av) h.amH (h.vC.below A) (h.at_.below A) (amI h) ?_ ⟨bu,fun _=>bu⟩ r
 ·refine this.mono ?_;rintro e w' ⟨hI,aF,rfl,h1,H,ab⟩;rw[hs] at ab;refine⟨hI,aF,rfl,h1,⟨H.os,H.tape,H.output,bX r H.size,fun k hk=>?_⟩,ab,by have:=H.size;omega⟩;rw[H.block k r ⟨r,by simp⟩];exact A.block k hk
 ·trivial
def apN{bd:List bG}(w:World)(h:uG F td bd O t lo hi b (.slice bt aX bD) w):ey 90 #[M b,.slice bt aX bD,q O] w (gU w (.bool (Uq bd O t))):=by
 have eo:Hid (ey 40 #[M w.heap.size,M b] (w.alloc (.cells #[.slice bt aX bD,q O,.slice none 0 0,.slice none 0 0,q 0,.bool false] 95)) fun e w'=>∃r0 ac,e=.returned (.slice r0 (bR bd O t [] nG).2.1.length ac)/\dp w' w.heap.size 5=some (.bool (bR bd O t [] nG).2.2.dE)/\Hid (Below w.heap.size w w')):=u ((amJ h).mono (by
  rintro e aA ⟨hI,aF,rfl,s1,s2,dd,qQ⟩;obtain⟨rs,cX,cA,-⟩:=dd;obtain⟨r0,ac,rfl⟩:=cG cX;exact⟨r0,ac,by rw[cA],s1.In.1,u s2⟩))
 clear h;unfold Uq;generalize bR bd O t [] nG=cm at *;obtain⟨fK,i1,st⟩:=cm;simp only[] at *;generalize st.dE=amT at *;cases i1 with
 | nil=>simp only[List.length_nil,List.isEmpty_nil,Bool.not_true,Bool.false_or] at *;go_enter func90,ntmps90;go_upto_region 2 with fail;go_wp2_with (go_at_call 40;refine eo.d.mono ?_;rintro e aA ⟨r0,ac,rfl,s1,A⟩);go_ret;exact⟨rfl,A.d⟩
 | cons x C=>
  have NK:(0:Int)<((x::C).length:Int):=by rw[di];omega
  simp only[List.isEmpty_cons,Bool.not_false,Bool.true_or] at *;generalize (x::C).length=avR at *;go_enter func90,ntmps90;go_upto_region 2 with fail;go_wp2_with (go_at_call 40;refine eo.d.mono ?_;rintro e aA ⟨r0,ac,rfl,s1,A⟩);go_ret;exact⟨rfl,A.d⟩
def lG(V:lh)(x:List al×ez):h8:=(x.1,hj [iO V x.2 V.length])
def Xe:∀(l:List (lE×h8)) (j:Nat) (x:Value) (a:h8) (h:j<l.length),(l.flatMap lF).set (j*3+2) x=(l.set j ((l[j].1.1,l[j].1.2.1,x),a)).flatMap lF
 | p::C,0,x,a,_=>by simp[lF]
 | p::C,j+1,x,a,h=>by have aH:=Xe C j x a (by simpa using h);rw[List.flatMap_cons,List.set_cons_succ,List.flatMap_cons,List.set_append_right _ _ (by show 3<=_;omega)];rw[show(j+1)*3+2-(lF p).length=j*3+2 by show _-3=_;omega,aH];rfl
def qV(F:Nat->Prop)(wb N:Nat)(G:Option Nat)(V:lh)(w:World)(v:Value)(i1:List (List al×ez))(j:Nat):Prop:=∃ts:List (lE×h8),ts.length=i1.length/\w.ownsRow N 106 3 v ts.length (ts.flatMap lF)/\∀i (h1:i<ts.length) (H:i<i1.length),w.ownsRow 0 112 3 ts[i].1.1 i1[i].1.length (fc i1[i].1)/\(∃us,el (jS wb G) w 92 ts[i].1.2.1 us/\fV F wb G w us i1[i].2)/\(i<j->w.ownsRow 0 40 2 ts[i].1.2.2 (lG V i1[i]).2.length ((lG V i1[i]).2.flatMap dX)/\ts[i].2=lG V i1[i])
def qV.start(h:l5 F wb N G w v i1):qV F wb N G V w v i1 0:=by
 obtain⟨rs,h1,H,ab⟩:=h;refine⟨rs.map fun p=>((p.1,p.2,.slice none 0 0),([],[])),by rw[cZ,H],?_,fun i a b=>?_⟩
 ·rw[cZ,List.flatMap_map];exact h1
 ·have hi:i<rs.length:=by simpa using a
  simp only[List.getElem_map];exact⟨(ab i hi b).1,(ab i hi b).2,fun x=>absurd x (fp _)⟩
def qV.turn(h:qV F wb N G V w v i1 j)(A:eB w w'):qV F wb N G V w' v i1 j:=by obtain⟨ts,h1,H,ab⟩:=h;have nf:∀(k:Nat) (cs:Array Value) (t:TypeId),t≠106->w.heap[k]?=some (.cells cs t (0,0))->w'.heap[k]?=w.heap[k]?:=fun k cs t _ e=>A.block k (br e).1;refine⟨ts,h1,ee H A,fun i a b=>?_⟩;obtain⟨bz,⟨us,cz,fP⟩,mq⟩:=ab i a b;exact⟨ee bz A,⟨us,cz.ad nf,fP.ad nf⟩,fun hi=>⟨ee (mq hi).1 A,(mq hi).2⟩⟩
def qV.row(h:qV F wb N G V w (.slice a n c) i1 j)(aS:j<i1.length)(ar:n=i1.length):∃g dN gv cz us,a=some ⟨g,0,none⟩/\N<=g/\(∃cs,w.heap[g]?=some (.cells cs 106 (0,0)))/\dp w g (j*3+1)=some gv/\dp w g (j*3)=some dN/\dp w g (j*3+2)=some cz/\w.frozen? ⟨g,j*3+2,none⟩=false/\el (jS wb G) w 92 gv us/\fV F wb G w us i1[j].2/\∀kr,w.ownsRow 0 40 2 kr (lG V i1[j]).2.length ((lG V i1[j]).2.flatMap dX)->qV F wb N G V (w.setCell ⟨g,j*3+2,none⟩ kr) (.slice a n c) i1 (j+1):=by
 obtain⟨ts,h1,H,ab⟩:=h;have Pn:j<ts.length:=r;obtain⟨h0,⟨us,gR,lA⟩,-⟩:=ab j Pn aS;subst ar;rw[h1] at H;have pI:=H;rw[<-h1] at H;obtain⟨g,e,R,bk,c1,c2⟩:=W1 (ei bu H) j Pn;subst e;rcases H.2 with⟨e,_⟩ | ⟨dM,af,ay,e,q1,bN,fR,iK,j4,km⟩
 ·cases e
 injection e with Y am bm;injection Y with Y;injection Y with Y;subst Y bm;refine⟨g,_,_,_,us,rfl,q1,⟨ay,bN⟩,c1,bk,c2,aQ bN,gR,lA,fun kr AF=>?_⟩;have nf:∀(k:Nat) (cs:Array Value) (t:TypeId),t≠106->w.heap[k]?=some (.cells cs t (0,0))->(w.setCell ⟨g,j*3+2,none⟩ kr).heap[k]?=w.heap[k]?:=fun k cs t au e=>by refine Below.heap_setCell _ _ _ k (show k≠g from fun x=>?_);subst x;exact oH e bN au rfl
 have Jn:∀{lo size n:Nat} {E:TypeId} {bp:Value} {xs:List Value},E≠106->w.ownsRow lo E size bp n xs->(w.setCell ⟨g,j*3+2,none⟩ kr).ownsRow lo E size bp n xs:=fun eU hu=>ph hu (fun k hk=>by obtain⟨_,cs,e⟩:=hD hu hk;exact nf k cs _ eU e);refine⟨ts.set j ((ts[j].1.1,ts[j].1.2.1,kr),lG V i1[j]),by rw[List.length_set,h1],?_,fun i a b=>?_⟩
 ·rw[List.length_set,<-Xe _ _ _ _ Pn];have b7:=H.1;refine⟨by rw[List.length_set];exact b7,.inr ⟨g,c,_,by rw[h1],q1,hc bN _,fR,iK,by rw[Array.size_setIfInBounds];exact j4,?_⟩⟩;rw[Array.toList_setIfInBounds,List.take_set,km]
 ·have hi:i<ts.length:=by simpa using a
  obtain⟨bz,⟨FG,cz,fP⟩,mq⟩:=ab i hi b;by_cases tQ:j=i
  ·subst tQ;simp only[List.getElem_set_self];exact⟨Jn K bz,⟨FG,cz.ad nf,fP.ad nf⟩,fun _=>⟨Jn K AF,by trivial⟩⟩
  ·simp only[List.getElem_set_ne tQ];exact⟨Jn K bz,⟨FG,cz.ad nf,fP.ad nf⟩,fun aD=>⟨Jn K (mq r).1,(mq r).2⟩⟩
def qV.done(h:qV F wb N G V w v i1 i1.length)(X:∀x∈i1,x.1.length<=1000000/\(lG V x).2.length<=1000000):∃ts:List (lE×h8),ts.map (·.2)=i1.map (lG V)/\w.ownsRow N 106 3 v ts.length (ts.flatMap lF)/\∀p∈ts,l6 w p:=by
 obtain⟨ts,h1,H,ab⟩:=h;refine⟨ts,List.ext_getElem (by simp[h1]) (fun i a b=>?_),H,fun p aj=>?_⟩
 ·have nB:i<ts.length:=by simpa using a
  have kH:i<i1.length:=by simpa using b
  simp only[List.getElem_map];exact((ab i nB kH).2.2 kH).2
 ·obtain⟨i,a,rfl⟩:=List.getElem_of_mem aj;have b:i<i1.length:=r;obtain⟨bz,⟨us,cz,fP⟩,mq⟩:=ab i a b;obtain⟨b3,z2⟩:=mq b;obtain⟨aC,bA,Y⟩:=cG bz;obtain⟨gb,gd,am⟩:=cG b3;obtain⟨⟨bf,gc,bm⟩,_⟩:=cz;obtain⟨l1,bT⟩:=X _ (ec b);rw[Y] at bz;rw[am] at b3;refine⟨aC,bA,bf,us.length,gc,gb,gd,?_,?_,?_,?_,?_⟩
  ·rw[z2];show ts[i].1=_;rw[show ts[i].1=(ts[i].1.1,ts[i].1.2.1,ts[i].1.2.2) from rfl,Y,am,bm];rfl
  ·rw[z2];exact bz
  ·rw[z2];exact b3
  ·rw[z2];exact l1
  ·rw[z2];exact bT
def oK(bd:List bG)(O:Int)(V:lh)(t:aL):Option (List l7):=if (bR bd O t [] nG).2.2.dE=true then none else some ((kM pg ((bR bd O t [] nG).2.1.map (lG V))).map nF)
def Po(l:List fo):∀j,(dO l j).length<=j
 | 0=>ap
 | 1=>by rw[dO,List.length_take];omega
 | j+2=>by
  have aH:=Po l (j+1);rw[dO];split
  ·omega
  ·rw[cu,List.length_take];omega
def amO(V:lh)(x:List al×ez)(ab:V.length<=3)(aa:x.2.length<=20000):(lG V x).2.length<=1000000:=by
 have h1:(hj [iO V x.2 V.length]).length<=(iO V x.2 V.length).length:=by unfold hj p7;refine bX (Po _ _) ?_;rw[(sS _ _).length_eq];simp
 rw[CG] at h1;have H:V.length*x.2.length<=3*20000:=Nat.mul_le_mul ab aa;exact bX h1 r
def fW.low{Xf:Nat}(h:fW base w v out)(A:Xf<=base):fW Xf w v out:=by obtain⟨bE,h1,H,ab⟩:=h;exact⟨bE,ei A h1,H,fun i a b=>⟨ei A (ab i a b).1,(ab i a b).2⟩⟩
def amP{bd:List bG}{e g:aL}(w:World)(h:uG F td bd O (.query e V wh g hv) lo hi b (.slice bt aX bD) w):ey 20 #[M b,.slice bt aX bD,q O] w fun x w'=>eB w w'/\match oK bd O V (.query e V wh g hv) with
   | none=>x=.returned (.tuple #[.slice none 0 0,.bool false])
   | some out=>∃v,x=.returned (.tuple #[v,.bool true])/\fW w.heap.size w' v out:=by
 obtain⟨x9,Xg⟩:=Pm h.fit h.bM h.b9 h.uF h.W4 [] (E:=[]) (st:=nG) (m:=0) (by trivial) ⟨bu,fun _=>bu⟩;have aj:=h.at_;obtain⟨bU,kH,l1,m1,m2,m3,h1,ev,sv,gv,es,ws,gs,Cc,bQ,dd,ak,-,A,cX,cA,AV,-⟩:=aj;injection bQ with bQ _;injection bQ with bQ;injection bQ with bQ;injection bQ with bQ;subst bQ;obtain⟨-,-,z1,-⟩:=Jc h.rel V [] bU ak;have amQ:Hid (∀s∈V,∃i,∃(hi:i<bd.length),fD bd s.1=some i/\bd[i].name=s.1):=u (fun s hs=>by
  obtain⟨i,hi⟩:=z1 s hs;obtain⟨a,c⟩:=W5 hi;exact⟨i,a,hi,c⟩)
 have Jh:(ea bd V).length=V.length:=Hy bd V;have bc:=(br A).1;obtain⟨eD,B8,rfl⟩:=cG cA;have amR:=u A;have Pa:=u (WK cA);have amS:=u h.vC;have eo:=u (amJ h);have E4:=u h.fH;obtain⟨-,-,-,rM,-⟩:=id h.uF;clear h ak z1 cX cA AV;unfold oK;generalize bR bd O (.query e V wh g hv) [] nG=cm at *;obtain⟨fK,i1,st⟩:=cm;simp only[] at *;generalize Xh:st.dE=amT at *;have Ji:=u Xh;clear Xh;cases amT with
 | true=>
  rw[if_pos rfl];simp only[];have vD:Hid (ey 40 #[M w.heap.size,M b] (w.alloc (.cells #[.slice bt aX bD,q O,.slice none 0 0,.slice none 0 0,q 0,.bool false] 95)) fun e w'=>∃hI,e=.returned hI/\dp w' w.heap.size 5=some (.bool true)/\Hid (eB w w')):=u (eo.out.mono (by
   rintro e aA ⟨hI,aF,rfl,s1,s2,dd,qQ⟩;exact⟨hI,rfl,by rw[<-Ji.out];exact s1.In.1,u s2⟩))
  clear eo;go_enter func20,ntmps20;go_upto_region 2 with fail;go_wp2_with (go_at_call 40;refine vD.out.mono ?_;rintro e aA ⟨hI,rfl,s1,A⟩);go_ret2;exact⟨A.out,rfl⟩
 | false=>
  rw[if_neg (by simp)];simp only[];have vD:Hid (ey 40 #[M w.heap.size,M b] (w.alloc (.cells #[.slice bt aX bD,q O,.slice none 0 0,.slice none 0 0,q 0,.bool false] 95)) fun e w'=>∃r0 ac aF,e=.returned (.slice r0 i1.length ac)/\dp w' w.heap.size 5=some (.bool false)/\Hid (eB w w'/\aM F w' w.heap.size aF bd O false st/\qV F w.heap.size (w.heap.size+1) aF V w' (.slice r0 i1.length ac) i1 0)):=u (eo.out.mono (by
   rintro e aA ⟨hI,aF,rfl,s1,s2,dd,qQ⟩;have k3:=qV.start (V:=V) dd;obtain⟨rs,q1,bN,-⟩:=dd;obtain⟨r0,ac,rfl⟩:=cG q1;rw[bN] at k3 ⊢;exact⟨r0,ac,aF,rfl,by rw[<-Ji.out];exact s1.In.1,u ⟨s2,s1,k3⟩⟩))
  have zJ:(i1.length:Int)<=30000:=r;have Xi:Hid (∀j (aS:j<i1.length),i1[j].2.length<=20000/\∀c∈i1[j].2,c.length=V.length):=u (fun j aS=>by
   have:=x9 _ (ec aS);exact⟨this.vc,fun c ai=>(this.fit c ai).len.trans Jh⟩)
  have NT:Hid (∀x∈i1,x.1.length<=1000000/\(lG V x).2.length<=1000000):=u (fun x aa=>by
   have:=x9 x aa;exact⟨by rw[this.len];omega,amO V x dd this.vc⟩)
  have x8:Hid (∀x∈i1,∀v∈x.1,fv v):=u (fun x aa=>(x9 x aa).ba);clear eo x9;go_enter func20,ntmps20;go_upto_region 2 with fail;go_upto_region 3 with(go_at_call 40;refine vD.out.mono ?_;rintro e J ⟨r0,ac,G,rfl,iT,c4⟩);go_upto_region 5 with fail;go_upto_region 6 with fail;go_loopg [20] (i1.length+1) (fun U i wr=>∃j:Nat,j<=i1.length/\i=q (j:Int)/\Hid (eB w wr/\aM F wr w.heap.size G bd O false st/\qV F w.heap.size (w.heap.size+1) G V wr (.slice r0 i1.length ac) i1 j)/\i1.length-j<U);case atStart=>exact⟨0,bu,rfl,c4,r⟩
  case round=>
   obtain⟨j,aS,rfl,xI,ae⟩:=hrel;by_cases aD:j<i1.length
   ·have cL:(j:Int)<(i1.length:Int):=r;obtain⟨cN,bL,fS⟩:=xI.out;obtain⟨g0,dN,atk,cz,us,rfl,cS,⟨cs,j2⟩,c1,bk,c2,ew,aj,ai,iz⟩:=fS.row aD rfl;obtain⟨⟨bf,gc,rfl⟩,-⟩:=id aj;have Ap:=cN.size;have q1:dp wr b 1=some (.slice eD V.length B8):=Z ((cN.block b bc).trans amR.out) (i:=1) rfl;have BJ:qS wr (.slice eD V.length B8) V:=Pa.out.a8 (fun k cs e=>(cN.block k (br e).1).trans e);have Xj:¬F g0:=fun av=>by have:=E4.out _ av;omega
    have Xk:G≠some g0:=(bL.new K K j2).2;have ef:g0<wr.heap.size:=(br j2).1;have Av:Hid (ey 41 #[M w.heap.size,.slice eD V.length B8,.slice bf us.length gc] wr.drew fun e w'=>∃gb fn gd,e=.returned (.slice gb fn gd)/\dp w' g0 (j*3+2)=some cz/\w'.frozen? ⟨g0,j*3+2,none⟩=false/\Hid (eB w (w'.setCell ⟨g0,j*3+2,none⟩ (.slice gb fn gd))/\aM F (w'.setCell ⟨g0,j*3+2,none⟩ (.slice gb fn gd)) w.heap.size G bd O false st/\qV F w.heap.size (w.heap.size+1) G V (w'.setCell ⟨g0,j*3+2,none⟩ (.slice gb fn gd)) (.slice (some ⟨g0,0,none⟩) i1.length ac) i1 (j+1))):=u ((amh _ _ V i1[j].2 us wr.drew bL.drew BJ dd amQ.out aj (fV.ad (w:=wr) (w':=wr.drew) (fun _ _ _ _ _=>rfl) ai) (Xi.out j aD).1 (Xi.out j aD).2).mono (by
     rintro e S ⟨kr,rfl,t1,t2⟩;have ah:eB wr S:=⟨t2.os,t2.tape,t2.output,t2.size,t2.block⟩;obtain⟨gb,gd,rfl⟩:=cG t1;have hk:=(ah.block g0 ef).trans j2;obtain⟨g1,pM,h0,gR,FG,Y,-,-,-,-,d2,amU,-,-,Jo⟩:=(fS.turn ah).row aD rfl;injection Y with Y;injection Y with Y;subst Y;have amV:dp S g0 (j*3+2)=some cz:=(ah.cell (p:=⟨g0,j*3+2,none⟩) ef).trans c2;refine⟨gb,_,gd,rfl,amV,amU,u ⟨(cN.trans (ah.mono Ap)).setCell (p:=⟨g0,j*3+2,none⟩) (show w.heap.size<=g0 by omega) _,(bL.below ah).other Xj r Xk _ _,Jo _ (ei bu t1)⟩⟩))
    have ch:=u ae;have vy:=u aD;have vt:IntKind.i64.wrap ((j:Int)+1)=(j:Int)+1:=mC;clear aj ai iz cN bL fS j2 xI ae BJ Xk Xj aD;go_upto_region 8 with fail;go_region_law (go_simp;go_at_call 41;refine Av.out.mono ?_;rintro e S ⟨gb,fn,gd,rfl,s1,s2,wg⟩);all_goals go_wp2_with fail
    all_goals
     have ae:=ch.out;have aD:=vy.out;go_roundg (gk-1);case measure=>omega
     case rel=>exact⟨j+1,r,by go_num,wg,r⟩
   ·have eZ:j=i1.length:=r;subst eZ;have cL:(i1.length:Int)<=(i1.length:Int):=r;obtain⟨cN,bL,fS⟩:=xI.out;obtain⟨ts,t1,t2,t3⟩:=fS.done NT.out;have amW:Hid (ey 42 #[.slice r0 i1.length ac,.func (.func 43) #[] #[]] wr fun e w'=>e=.returned (.tuple #[])/\Hid (ey 44 #[.slice r0 i1.length ac] w' fun e S=>∃cF,e=.returned cF/\Hid (fW w.heap.size S cF ((kM pg (i1.map (lG V))).map nF)/\eB w S))):=u ((amu _ ts _ wr t2 (by
      have:=congrArg List.length t1;rw[cZ,cZ] at this;omega) t3).mono (by
     rintro e S ⟨rfl,lZ,b3,z2,z3,z4⟩;refine⟨rfl,u ?_⟩;have ah:eB w S:=cN.trans (z4.mono r);rw[t1] at b3;have nT:∀p∈lZ,∀x∈p.2.1,fv x:=fun p aj x aa=>by have:p.2∈lZ.map (·.2):=List.mem_map_of_mem aj;rw[b3] at this;obtain⟨y,hy,e⟩:=List.mem_map.1 ((sS _ _).mem_iff.1 this);rw[<-e] at aa;exact x8.out y hy x aa
     have tD:lZ.length=i1.length:=by have:=congrArg List.length b3;rw[cZ,(sS _ _).length_eq,cZ] at this;exact this
     refine(amy _ lZ S (amS.out.below ah) (ei bu z3) r (fun p aj=>⟨z2 p aj,nT p aj⟩)).mono ?_;rintro e aA ⟨cF,rfl,jH,k2⟩;refine⟨cF,rfl,u ⟨?_,ah.trans (k2.mono ah.size)⟩⟩;rw[<-b3,List.map_map];exact jH.low ah.size))
    clear cN bL fS t1 t2 t3 xI ae;go_wp2_with (first | (go_at_call 42;refine amW.out.mono ?_;rintro e S ⟨rfl,amX⟩) | (go_at_call 44;refine amX.out.mono ?_;rintro e aA ⟨cF,rfl,xO⟩));go_ret2;exact⟨xO.out.2,_,rfl,xO.out.1⟩
def Pp{l:e4}(X:l.length<=400)(h:ru l=some x):aJ x.2 2/\2*nq x.2<=l.length:=by unfold ru at h;have h1:=(adB (8*l.length+8) r (8*l.length+8) ap).2.2.1 l x h r;have H:=(amK (8*l.length+8)).2 l x h;exact⟨h1,r⟩
def Xn(X:ts.length<=400)(h:kE ts=some x):aJ x.2 2/\2*nq x.2<=400:=by
 have au:=mm ts;unfold kE at h;split at h
 ·obtain⟨a,ak,h⟩:=aV h;have:=lp ak;obtain⟨h1,H⟩:=Pp r h;exact⟨h1,r⟩
 split at h
 ·obtain⟨h1,H⟩:=Pp r h;exact⟨h1,r⟩
 ·obtain⟨h1,H⟩:=Pp r h;exact⟨h1,r⟩
def Pq{s:e6}(h:hC s=some (ts,t)):kE ts=some ([],t):=by
 unfold hC at h;split at h
 ·obtain⟨l,h1,h⟩:=aV h;obtain⟨x,H,h⟩:=aV h;split at h
  ·rename_i ab;injection h with h;injection h with Y am;subst Y am;rw[H,<-ab]
  ·cases h
 ·cases h
def am7{nb:Nat}{J S:World}(h:Below w.heap.size w J)(H:eu nb lo hi J S)(X:w.heap.size<=lo)(ar:w.heap.size<=nb):Below w.heap.size w S:=⟨H.os.trans h.os,H.tape.trans h.tape,H.output.trans h.output,bX h.size H.size,fun k hk=>by
 rcases H.block k (e0 hk h.size) with e | ⟨e,_⟩ | ⟨e,_⟩
 ·exact e.trans (h.block k hk)
 ·omega
 ·omega⟩
def hN(td:List eb)(s:e6):Nat:=if kq s [0]≠0 then kq s [0] else match hC s with
 | none=>0
 | some x=>pj td x.2
def Xo(td:List eb)(s:e6)(w:World)(e:Ending)(w':World):Prop:=Below w.heap.size w w'/\∃rS,e=.returned (.tuple #[rS,q (hN td s:Int)])/\(hN td s=0->∃ts t x lo hi,hC s=some (ts,t)/\ts.length<=400/\w.heap.size<=lo/\rS=M x/\dK td w' t [] lo hi [M x])
def am8(s:e6)(td:List eb)(qW:Nat)(bt:Option Addr)(aX bD:Nat)(w:World)(R:et w)(aa:dp w qW 0=some (.slice bt aX bD))(mI:qW<w.heap.size)(Jq:∃cs,w.heap[qW]?=some (.cells cs 67 (0,0)))(au:mu w (.slice bt aX bD) td):ey 19 #[M qW,.string s] w (Xo td s w):=by
 have k0:=R.js;have kF:Below w.heap.size w (w.alloc (.cells #[q 0] 73)):=cT;have z0:(w.alloc (.cells #[q 0] 73)).heap.size=w.heap.size+1:=by simp
 have cK:=u (ahl s [0] _ _ (R.below kF k0) (uh.made w [0] #[q 0] rfl K) K);go_enter func19,ntmps19;go_upto_region 1 with fail;go_wp2_with fail;refine cK.d.mono ?_;rintro e J ⟨bJ,⟨cy,rfl⟩ | ⟨ts,t,x,hi,aY,r4,b7,rfl,fz⟩⟩
 ·have sZ:Hid (hN td s=kq s [0]):=u (by unfold hN;rw[if_pos cy]);have aes:((kq s [0]:Int)==0)=false:=by rw[cV];omega
  have LC:=u cy;have dT:Hid (Below w.heap.size w J):=u (kF.trans (bJ.mono r));clear cy bJ kF cK;unfold ui;generalize kq s [0]=aB at *;go_wp2_with fail;go_ret2;refine⟨dT.d.alloc dT.d.size _,_,by rw[sZ.d];rfl,fun e=>?_⟩;rw[sZ.d] at e;exact absurd e LC.d
 ·have ah:Below w.heap.size w J:=kF.trans (bJ.mono r);have dF:Below J.heap.size J (J.alloc (.cells #[q (gq ts:Int),q (mM ts),M x] 75)):=cT;have fq:=bH J (.cells #[q (gq ts:Int),q (mM ts),M x] 75);have cg:=ah.trans (dF.mono ah.size);obtain⟨am9,Jq⟩:=Jq;obtain⟨ko,mW⟩:=Xn b7 (Pq r4);obtain⟨tN,Cz⟩:=MX b7 (Pq r4);have sZ:Hid (hN td s=pj td t):=u (by unfold hN;rw[if_neg (by rw[aY];decide),r4]);have hV:=(fz.kept (Lq dF));have H3:=u r4;have MZ:=u b7;have CK:=(cg.block qW mI).trans Jq;have Xp:(J.alloc (.cells #[q (gq ts:Int),q (mM ts),M x] 75)).cell? ⟨qW,0,none⟩=some (.slice bt aX bD):=(cg.cell (p:=⟨qW,0,none⟩) mI).trans aa;have Xq:=au.heap cg;clear fz r4 b7 au aa Jq aY dF kF cK bJ
  go_upto_region 4 with fail;have bT:(J.alloc (.cells #[q (gq ts:Int),q (mM ts),M x] 75)).cell? ⟨J.heap.size,2,none⟩=some (M x):=Z fq (i:=2) rfl;generalize J.alloc (.cells #[q (gq ts:Int),q (mM ts),M x] 75)=W at *;have IA:=u cg;have aN:Hid (ey 39 #[M x,.slice bt aX bD] W.drew fun e w'=>e=.returned (q (pj td t:Int))/\dp w' J.heap.size 2=some (M x)/\dp w' qW 0=some (.slice bt aX bD)/\Hid (eu W.heap.size (w.heap.size+1) hi W w'/\(pj td t=0->dK td w' t [] (w.heap.size+1) hi [M x]))):=u ((ah5 td t x (w.heap.size+1) hi _ W.drew ko (by rw[z0] at hV;exact hV.drew) (Xq.heap ⟨rfl,rfl,rfl,ap,fun _ _=>rfl⟩) r).mono (by
   rintro e w' ⟨rfl,bM,b9⟩;have Pr:eu W.heap.size (w.heap.size+1) hi W w':=⟨bM.os,bM.tape,bM.output,bM.size,bM.block⟩;refine⟨rfl,Z (Pr.other fq K K K) (i:=2) rfl,?_,u ⟨Pr,b9⟩⟩;obtain⟨y,hy⟩:∃y,am9[0]?=some y:=by have:=Xp;simp only[World.cell?,CK] at this;exact⟨_,this⟩
   rw[Xp.symm.trans (Z CK hy)];exact Z (Pr.other CK K K K) hy))
  have bn:=u mW;clear cg CK Xq fq hV ko tN Cz mW ah;generalize pj td t=r5 at *;go_region_held3 (fun w'=>w'.cell? ⟨J.heap.size,2,none⟩=some (M x)/\w'.cell? ⟨qW,0,none⟩=some (.slice bt aX bD)) (go_keep) (first | (go_at_call 39;refine aN.d.mono ?_;rintro e S ⟨rfl,h0,gR,lA⟩));all_goals go_wp2_with fail
  all_goals
   go_ret2;obtain⟨bM,b9⟩:=lA.d;refine⟨am7 IA.d bM r IA.d.size,_,by rw[sZ.d];rfl,fun e=>?_⟩;rw[sZ.d] at e;exact⟨ts,t,x,_,hi,H3.d,MZ.d,Nat.le_succ _,rfl,b9 e⟩
def Ps{l:List (Value×Value)}(h:w.ownsRow lo 37 2 (.slice a l.length c) l.length (l.flatMap CH))(i:Nat)(hi:i<l.length):∃g,a=some ⟨g,0,none⟩/\g<w.heap.size/\dp w g (i*2)=some l[i].1/\dp w g (i*2+1)=some l[i].2:=by
 obtain⟨g,e,R⟩:=vA h r;subst e;letI:Inhabited (Value×Value):=⟨l[i]⟩
 have aw:=sP CH 2 K (fun _=>rfl) l (i*2) r;have h1:=sP CH 2 K (fun _=>rfl) l (i*2+1) r;rw[show i*2/2=i by omega,show i*2%2=0 by omega,getElem!_pos l i hi] at aw;rw[show(i*2+1)/2=i by omega,show(i*2+1)%2=1 by omega,getElem!_pos l i hi] at h1;have bk:=h.cells rfl _ _ aw;have c1:=h.cells rfl _ _ h1;rw[Addr.add_lit,ax1] at bk c1;exact⟨g,rfl,R,bk,c1⟩
def ana:(prog.info? 35).map (fun i=>(i.zero,i.size,i.bytes))=some (some (.slice none 0 0),1,24):=ax
def anb(v:Value)(out:List l7)(base:Nat)(w:World)(h:fW base w v out)(X:out.length<=100000)(au:(out.map (·.2)).flatten.length<=1000000):ey 23 #[v] w fun e w'=>∃bp,e=.returned bp/\w'.ownsRow w.heap.size 40 2 bp (hj (out.map (·.2))).length ((hj (out.map (·.2))).flatMap dX)/\eB w w':=by
 obtain⟨bE,ag,mn,CL⟩:=h;obtain⟨eL,rc,rfl⟩:=cG ag;have anc:bE.length<=100000:=r;have e9:Hid (∀W,eB w W->∀i (hi:i<bE.length),∃g,eL=some ⟨g,0,none⟩/\g<w.heap.size/\dp W g (i*2)=some bE[i].1/\dp W g (i*2+1)=some bE[i].2):=u (fun W A i hi=>by
  obtain⟨g,e,R,bk,c1⟩:=Ps ag i hi;exact⟨g,e,R,(A.cell (p:=⟨g,i*2,none⟩) R).trans bk,(A.cell (p:=⟨g,i*2+1,none⟩) R).trans c1⟩)
 have ane:Hid (∀i (hi:i<bE.length),∃a n c b m aq,bE[i]=(.slice b m aq,.slice a n c)):=u (fun i hi=>by
  obtain⟨aI,aZ⟩:=CL i hi r;obtain⟨b,aq,Y⟩:=cG aI;obtain⟨a,c,am⟩:=cG aZ;exact⟨a,_,c,b,_,aq,by rw[<-Y,<-am]⟩)
 have nC:Hid (∀W kr,eB w W->W.ownsRow w.heap.size 35 1 kr bE.length ((bE.take bE.length).map (·.2))->ey 50 #[kr] W fun e w'=>∃bp,e=.returned bp/\Hid (w'.ownsRow w.heap.size 40 2 bp (hj (out.map (·.2))).length ((hj (out.map (·.2))).flatMap dX)/\eB w w')):=u (fun W kr A AF=>by
  rw[List.take_length] at AF;refine(Vm kr (out.map (·.2)) W ⟨bE.map (·.2),by rw[cZ];exact ei bu AF,by rw[cZ,cZ];exact mn,fun i a b=>?_⟩ (by rw[cZ];omega) au).mono ?_
  ·simp only[List.getElem_map];exact ee (CL i (by simpa using a) (by simpa using b)).2 A
  ·rintro e w' ⟨bp,rfl,u1,u2⟩;exact⟨bp,rfl,u ⟨ei A.size u1,A.trans (u2.mono A.size)⟩⟩)
 clear ag CL;go_enter func23,ntmps23;go_upto_region 3 with fail;go_loopg [3,8] (bE.length+1) (fun U kr i wr=>∃j:Nat,j<=bE.length/\i=q (j:Int)/\Hid (wr.ownsRow w.heap.size 35 1 kr j ((bE.take j).map (·.2)))/\Hid (eB w wr)/\bE.length-j<U);case atStart=>exact⟨0,bu,rfl,u (World.ownsRow_nil _ _ _ _),u (Below.refl _ _),r⟩
 case round=>
  obtain⟨j,aS,rfl,vB,bc,ae⟩:=hrel;by_cases aD:j<bE.length
  ·have cL:(j:Int)<(bE.length:Int):=r;obtain⟨g,rfl,R,bk,c1⟩:=e9.out wr bc.out j aD;obtain⟨a,n,c,b,m,aq,CI⟩:=ane.out j aD;have vt:IntKind.i64.wrap ((j:Int)+1)=(j:Int)+1:=mC;have Pk:=bc.out.size;have wU:¬g=wr.heap.size:=r;have mo:Hid ((bE.take (j+1)).map (·.2)=(bE.take j).map (·.2)++[.slice a n c]):=u (by rw[jD aD,List.map_append,CI];rfl);rw[CI] at bk c1;simp only[] at bk c1;have ch:=u ae;have sz:=u aD;obtain⟨dc,de,AM⟩:=cG vB.out;subst AM;have dF:eB wr (wr.alloc (.cells #[.slice b m aq,.slice a n c] 37)):=cT;have aO:=bH wr (.cells #[.slice b m aq,.slice a n c] 37);have kO:Hid (eB w (wr.alloc (.cells #[.slice b m aq,.slice a n c] 37))):=u (bc.out.trans (dF.mono Pk));have h0:=Z aO (i:=1) rfl
   obtain⟨cF,w',AN,an,bC,-⟩:=ug underlying120 ana rfl K K (ee vB.out dF) #[.slice a n c] rfl (by simp[Value.oneCell']) r kO.out.size;obtain⟨aC,bA,rfl⟩:=cG an;have qa:=u AN;have xf:Hid (w'.ownsRow w.heap.size 35 1 (.slice aC (j+1) bA) (j+1) ((bE.take (j+1)).map (·.2))):=u (by rw[mo.out];exact an);have dI:=(Below.refl (wr.alloc (.cells #[.slice b m aq,.slice a n c] 37)).heap.size (wr.alloc (.cells #[.slice b m aq,.slice a n c] 37))).alloc ap (.cells #[.slice a n c] 35);have ua:Hid (eB w w'):=u ((kO.out.trans (dI.mono kO.out.size)).grown bC (bX kO.out.size dI.size) (fun k e=>((ei ap vB.out).lt k e).1));clear AN an bC dI dF aO vB bc CI ae aD;go_upto_region 5 with fail;generalize wr.alloc (.cells #[.slice b m aq,.slice a n c] 37)=W at *
   go_wp2_with (at_builtin;refine Lib.wpList_append_run _ rfl _ _ _ _ rfl _ _ rfl rfl _ _ (qa.out _) ?_);have ae:=ch.out;have BE:=sz.out;go_roundg (gk-1);case measure=>omega
   case rel=>exact⟨j+1,r,by go_num,xf,ua,r⟩
  ·have eZ:j=bE.length:=r;subst eZ;have cL:(bE.length:Int)<=(bE.length:Int):=r;have bK:=u (nC.out wr _ bc.out vB.out);clear ae vB;go_wp2_with (go_at_call 50;refine bK.out.mono ?_;rintro e S ⟨bp,rfl,sW⟩);go_ret;exact⟨bp,rfl,sW.out.1,sW.out.2⟩
def fB(F:Nat->Prop)(w:World)(v:Value)(l:je):Prop:=∃rs,eg F w 115 2 v l.length (cQ rs)/\dk F w rs l
def fB.move{F F':Nat->Prop}{w w':World}{v:Value}{l:je}(h:fB F w v l)(m:dj F F' w w'):fB F' w' v l:=by obtain⟨rs,h1,H⟩:=h;exact⟨rs,h1.move m,H.move m⟩
def fB.below(h:fB F w v l)(A:eB w w'):fB F w' v l:=h.move (fun k hk av=>⟨av,A.block k hk⟩)
structure qh where
 log:je
 ng:je
 count:Nat
def Gb(time:Int)(l:je):Nat:=l.foldl (fun a C=>if (C.2.getD 2 al.zero).num<=time then C.1 else a) 0
def auf(time:Int)(l:je)(j:Nat)(h:j<l.length):Gb time (l.take (j+1))=if (l[j].2.getD 2 al.zero).num<=time then l[j].1 else Gb time (l.take j):=by unfold Gb;rw[jD h,List.foldl_append];rfl
def aug(c9 aE:Value)(n time:Int)(l:je)(w:World)(h:fB F w c9 l)(ab:∀C∈l,C.2.length=3)(X:l.length<=1000000)(MG:∃a m c,aE=.slice a m c):ey 135 #[.agg #[c9,aE,q n],q time] w (gU w (q (Gb time l:Int))):=by
 obtain⟨rs,ag,Cw⟩:=h;have NK:=Cw.len;obtain⟨eL,rc,rfl⟩:=cG ag.1;obtain⟨bt,auh,bD,rfl⟩:=MG;have e9:Hid (∀W,eB w W->∀j (aS:j<l.length),∃g ib bA,eL=some ⟨g,0,none⟩/\g<w.heap.size/\ib<w.heap.size/\dp W g (j*2)=some (q (l[j].1:Int))/\dp W g (j*2+1)=some (.slice (some ⟨ib,0,none⟩) 3 bA)/\dp W ib 7=some (q (l[j].2.getD 2 al.zero).num)):=u (fun W A j aS=>by
  have kv:j<rs.length:=r;obtain⟨Y,hv⟩:=Cw.get j kv aS;obtain⟨gm,aI⟩:=Hm rs j kv;obtain⟨g,eX,R⟩:=vA ag.1 r;subst eX;have bk:=ag.1.cells rfl _ _ gm;have c1:=ag.1.cells rfl _ _ aI;rw[Addr.add_lit,ax1] at bk c1;have DG:=ab _ (ec aS);obtain⟨aC,bA,ev⟩:=cG hv.1;have Wi:=hv.1;rw[ev] at Wi c1;obtain⟨ib,aui,aod⟩:=vA Wi r;subst aui;obtain⟨-,v1,-⟩:=wu l[j].2 2 r;have c2:=Wi.cells rfl _ _ v1;rw[Addr.add_lit,ax1] at c2;rw[DG] at c1;have ko:l[j].2.getD 2 al.zero=l[j].2[2]'r:=by rw[List.getD_eq_getElem?_getD,fC r];rfl
  rw[Y] at bk;exact⟨g,ib,bA,rfl,R,aod,(A.cell (p:=⟨g,j*2,none⟩) R).trans bk,(A.cell (p:=⟨g,j*2+1,none⟩) R).trans c1,by rw[ko];exact(A.cell (p:=⟨ib,7,none⟩) aod).trans c2⟩)
 have tR:Hid (∀j (h:j<l.length),Gb time (l.take (j+1))=if (l[j].2.getD 2 al.zero).num<=time then l[j].1 else Gb time (l.take j)):=u (auf time l);have nC:Hid (Gb time (l.take l.length)=Gb time l):=u (by rw[List.take_length]);have YU:eB w (w.alloc (.cells #[.slice eL l.length rc,.slice bt auh bD,q n] 62)):=cT;clear ag Cw ab;go_enter func135,ntmps135;go_upto_region 3 with fail;go_loopg [5,11] (l.length+1) (fun U amz i wr=>∃j:Nat,j<=l.length/\i=q (j:Int)/\amz=q (Gb time (l.take j):Int)/\Hid (eB w wr)/\l.length-j<U);case atStart=>exact⟨0,bu,rfl,rfl,u YU,r⟩
 case round=>
  obtain⟨j,aS,rfl,rfl,bc,ae⟩:=hrel;clear YU;by_cases aD:j<l.length
  ·have cL:(j:Int)<(l.length:Int):=r;obtain⟨g,ib,bA,rfl,R,aod,bk,c1,c2⟩:=e9.d wr bc.d j aD;have vt:IntKind.i64.wrap ((j:Int)+1)=(j:Int)+1:=mC;have Pk:=bc.d.size;have wU:¬g=wr.heap.size:=r;have auj:¬ib=wr.heap.size:=r;have bn:=u (tR.d j aD);have r1:Hid (eB w (wr.alloc (.cells #[q (l[j].1:Int),.slice (some ⟨ib,0,none⟩) 3 bA] 115))):=u (bc.d.alloc bc.d.size _);have ch:=u ae;have sz:=u aD;clear ae bc;generalize Gb time (l.take j)=aoc at *;generalize l[j].1=apj at *;generalize (l[j].2.getD 2 al.zero).num=aqE at *;clear aD;have aO:=bH wr (.cells #[q (apj:Int),.slice (some ⟨ib,0,none⟩) 3 bA] 115);have d0:=Z aO (i:=0) rfl;have d1:=Z aO (i:=1) rfl
   have d2:=(((Below.refl wr.heap.size wr).alloc ap (.cells #[q (apj:Int),.slice (some ⟨ib,0,none⟩) 3 bA] 115)).cell (p:=⟨ib,7,none⟩) (show ib<wr.heap.size by omega)).trans c2;go_upto_region 5 with fail;clear bk c1 c2 aO wU auj;generalize wr.alloc (.cells #[q (apj:Int),.slice (some ⟨ib,0,none⟩) 3 bA] 115)=W at *;by_cases hle:aqE<=time
   ·have oG:Hid (Gb time (l.take (j+1))=apj):=u (by rw[bn.d,if_pos hle]);go_wp2_with fail;have ae:=ch.d;have BE:=sz.d;go_roundg (gk-1);case measure=>omega
    case rel=>exact⟨j+1,r,by go_num,by rw[oG.d],r1,r⟩
   ·have oG:Hid (Gb time (l.take (j+1))=aoc):=u (by rw[bn.d,if_neg hle]);have Kj:time<aqE:=r;go_wp2_with fail;have ae:=ch.d;have BE:=sz.d;go_roundg (gk-1);case measure=>omega
    case rel=>exact⟨j+1,r,by go_num,by rw[oG.d],r1,r⟩
  ·have eZ:j=l.length:=r;subst eZ;have cL:(l.length:Int)<=(l.length:Int):=r;clear ae;go_wp2_with fail;go_ret;exact⟨by rw[nC.d];rfl,bc.d⟩
def auk(xs:List (Value×Value))(bs:List Bool)(a:Option Addr)(af lo:Nat)(w:World)(G:Nat)(dx:Array Value)(eX:∀args w,(callFunc G args).run prog w=.ok (.enter G args) w)(an:w.ownsRow lo 115 2 (.slice a xs.length af) xs.length (h4 xs))(cq:k9 w G dx (xs.map zU) bs)(X:xs.length<=100000):ey 60 #[.slice a xs.length af,.func (.func G) #[] dx] w (gU w (q (nV (bs.findIdx? id)))):=by
 have b7:xs.length=bs.length:=by have:=cq.len;rwa [cZ] at this
 have fk:=u b7;have mG:=u cq;clear b7 cq;go_enter func60,ntmps60;go_wp2_with fail;go_loopg [5,8] (xs.length+1) (fun U _ i wr=>∃j:Nat,j<=xs.length/\i=q (j:Int)/\Hid (pR bs j)/\Below w.heap.size w wr/\xs.length-j<U);case atStart=>exact⟨0,bu,rfl,u (fun i _ hi=>absurd hi (fp _)),Below.refl _ _,r⟩
 case round=>
  obtain⟨j,aS,rfl,b8,A,ae⟩:=hrel;by_cases aD:j<xs.length
  ·have cL:(j:Int)<(xs.length:Int):=r;have i6:j<bs.length:=by have:=fk.d;omega
   obtain⟨h1,H⟩:=yd xs j aD;rcases an.2 with⟨bo,aw⟩ | ⟨g,cJ,ay,bo,eI,ed,-⟩
   ·omega
   obtain⟨rfl,rfl⟩:a=some ⟨g,0,none⟩/\af=cJ:=by injection bo with Y am bm;exact⟨Y,bm⟩
   have ef:g<w.heap.size:=(br ed).1;have c1:=dr A (by have:=an.cells rfl _ _ h1;rwa [Addr.add_lit,ax1] at this) ef;have c2:=dr A (by have:=an.cells rfl _ _ H;rwa [Addr.add_lit,ax1] at this) ef;have fr:IntKind.i64.wrap ((j:Int)+1)=(j:Int)+1:=mC;have ch:=u ae;have aN:Hid (ey G (#[.agg #[xs[j].1,xs[j].2]]++dx) wr (gU wr (.bool bs[j]))):=u (by
    have:=mG.d.get j (by rw[cZ];exact aD) i6 wr A;rw[List.getElem_map] at this;exact this)
   have bn:Hid (∀b,bs[j]=b->(b=true->bs.findIdx? id=some j)/\(b=false->pR bs (j+1))):=u (fun b bg=>⟨fun e=>HB b8.d i6 (bg.trans e),fun e a ak cf=>by
    by_cases Y:a=j
    ·subst Y;exact bg.trans e
    ·exact b8.d a ak r⟩)
   generalize bs[j]=hb at aN bn;have eS:=u (bn.d hb rfl);generalize xs[j]=x at *;obtain⟨bz,cz⟩:=x;dsimp only at c1 c2 aN;clear bn b8 ae bo h1 H ed;cases hb
   ·have bj:=u (eS.d.2 rfl);clear eS;go_wp2_with (go_at_fn G;refine aN.d.mono ?_;rintro e S ⟨rfl,ah⟩);have ae:=ch.d;go_roundg (xs.length-j);case measure=>omega
    case rel=>exact⟨j+1,r,by go_num,bj,A.trans (ah.mono A.size),r⟩
   ·have bj:=u (eS.d.1 rfl);clear eS;go_wp2_with (go_at_fn G;refine aN.d.mono ?_;rintro e S ⟨rfl,ah⟩);go_ret;exact⟨by rw[bj.d];rfl,A.trans (ah.mono A.size)⟩
  ·have cL:(xs.length:Int)<=(j:Int):=r;have bj:=u (HA (fun a ak _=>b8.d a ak (by have:=fk.d;omega)));clear b8 ae;go_wp2_with fail;go_ret;exact⟨by rw[bj.d];rfl,A⟩
def aul(g off af:Nat)(rc:List (Nat×Value))(w:World)(ai:∀(j:Nat) (bp:Value),(cQ rc)[j]?=some bp->dp w g (off+j)=some bp)(R:g<w.heap.size)(h1:∀bp∈cQ rc,bp.oneCell'=true)(hm:rc.length<=100000):ey 204 #[.slice (some ⟨g,off,none⟩) rc.length af] w fun e w'=>∃v,e=.returned v/\w'.ownsRow w.heap.size 115 2 v rc.length (cQ rc)/\Below w.heap.size w w':=by
 have dI:=(Below.refl w.heap.size w).alloc ap (.cells #[] 115);have B3:(w.alloc (.cells #[] 115)).ownsRow w.heap.size 115 2 (.slice (some ⟨w.heap.size,0,none⟩) 0 0) 0 []:=⟨rfl,.inr ⟨_,0,#[],rfl,ap,bH w _,ap,K,rfl,rfl⟩⟩;obtain⟨v5,bh,qA,jI,fh,Cj⟩:=MR underlying60 D7 rfl K K B3 (a:=⟨g,off,none⟩) (m:=rc.length) (c:=af) (ys:=cQ rc) (Hl rc) (fun j bp aS=>by rw[Addr.add_lit];exact dr dI (ai j bp aS) R) h1 r (by rw[cc];omega);have cK:=u qA;have dT:Hid (Below w.heap.size w bh):=u (by
  refine⟨fh.os.trans dI.os,fh.tape.trans dI.tape,fh.output.trans dI.output,bX dI.size fh.size,fun k hk=>(fh.block k (e0 hk dI.size) ?_).trans (dI.block k hk)⟩;intro e;have:w.heap.size=k:=by simpa [Value.ownBlock] using e.symm
  omega)
 have xO:Hid (bh.ownsRow w.heap.size 115 2 v5 rc.length (cQ rc)):=u (by simpa using jI);have U:∀(w:World) (a:Option Addr) (n c iG e7:Nat),(binOp .eql 60 (.slice a n c) (.slice none iG e7)).run prog w=.ok (.bool a.isNone) w:=fun w a n c iG e7=>Lib.run_eql_slice_nil w _ _ a n c iG e7 underlying60;clear qA jI fh Cj dI B3 ai h1;go_enter func204,ntmps204;go_wp2_with (at_builtin;refine Lib.wpList_append_run _ rfl _ _ _ _ rfl _ _ rfl rfl _ _ (cK.d _) ?_);go_ret;exact⟨_,rfl,xO.d,dT.d⟩
def q0(entry:Int)(l:je):je:=match l.findIdx? (fun C=>decide (entry<(C.1:Int))) with
 | none=>[]
 | some i=>l.drop i
def aum(n entry:Int)(v:Value)(E:Nat)(w:World)(eU:dp w E 0=some (q entry))(X:E<w.heap.size)(hv:∃a m c,v=.slice a m c):tY w 203 #[M E] (.agg #[q n,v]) (decide (entry<n)):=by
 intro w' A;obtain⟨a,m,c,rfl⟩:=hv;have Yu:=(A.cell (p:=⟨E,0,none⟩) X).trans eU;have aD:E<w'.heap.size:=e0 X A.size;have cy:¬E=w'.heap.size:=r;have dF:Below w'.heap.size w' (w'.alloc (.cells #[q n,.slice a m c] 115)):=cT;have aO:=bH w' (.cells #[q n,.slice a m c] 115);have atm:=(dF.cell (p:=⟨E,0,none⟩) aD).trans Yu;have d0:=Z aO (i:=0) rfl;have dT:=u dF;clear eU A Yu aO dF;show ey 203 #[.agg #[q n,.slice a m c],M E] w' _;go_enter func203,ntmps203;go_upto_region 1 with fail;generalize w'.alloc (.cells #[q n,.slice a m c] 115)=W at *;by_cases h:entry<n
 ·have ht:Hid (decide (entry<n)=true):=u (ax3 h);go_wp2_with fail;go_ret;exact⟨by rw[ht.d];rfl,dT.d⟩
 ·have ht:Hid (decide (entry<n)=false):=u (ax2 h);have cC:n<=entry:=r;go_wp2_with fail;go_ret;exact⟨by rw[ht.d];rfl,dT.d⟩
def aqF(b0:Value)(entry:Int)(l:je)(w:World)(h:fB F w b0 l)(X:l.length<=10000):ey 134 #[b0,q entry] w fun e w'=>∃a n c,e=.returned (.slice a n c)/\fB (db F w) w' (.slice a n c) (q0 entry l)/\Below w.heap.size w w':=by
 obtain⟨rs,ag,Cw⟩:=h;have NK:=Cw.len;obtain⟨eL,rc,rfl⟩:=cG ag.1;have YU:Below w.heap.size w (w.alloc (.cells #[q entry] 3)):=cT;have DP:=bH w (.cells #[q entry] 3);have ff:(w.alloc (.cells #[q entry] 3)).heap.size=w.heap.size+1:=cc _ _;have cq:k9 (w.alloc (.cells #[q entry] 3)) 203 #[M w.heap.size] ((rs.map fun C=>(q (C.1:Int),C.2)).map zU) (l.map fun C=>decide (entry<(C.1:Int))):=by
  have key:∀(rs:List (Nat×Value)) (l:je),dk F w rs l->k9 (w.alloc (.cells #[q entry] 3)) 203 #[M w.heap.size] ((rs.map fun C=>(q (C.1:Int),C.2)).map zU) (l.map fun C=>decide (entry<(C.1:Int))):=by
   intro rs;induction rs with
   | nil=>intro l h;cases l with
    | nil=>trivial
    | cons=>exact h.elim
   | cons a C aH=>intro l h;cases l with
    | nil=>exact h.elim
    | cons b s=>obtain⟨⟨e,hv⟩,H⟩:=h;obtain⟨aC,bA,ev⟩:=cG hv.1;refine⟨?_,aH s H⟩;show tY _ _ _ (.agg #[q (a.1:Int),a.2]) (decide (entry<(b.1:Int)));rw[<-e];exact aum _ entry a.2 w.heap.size _ (Z DP (i:=0) rfl) r ⟨_,_,_,ev⟩
  exact key rs l Cw
 have lS:h4 (rs.map fun C=>(q (C.1:Int),C.2))=cQ rs:=by unfold h4 cQ;rw[List.flatMap_map]
 have kj:Hid (ey 60 #[.slice eL l.length rc,.func (.func 203) #[] #[M w.heap.size]] (w.alloc (.cells #[q entry] 3)) fun e w'=>e=.returned (q (nV (l.findIdx? (fun C=>decide (entry<(C.1:Int))))))/\Hid (Below w.heap.size w w')):=u (by
  have:=auk (rs.map fun C=>(q (C.1:Int),C.2)) (l.map fun C=>decide (entry<(C.1:Int))) eL rc 0 _ _ _ (enters_of func203 ax rfl) (by rw[cZ,NK,lS];exact ee ag.1 YU) cq (by rw[cZ];omega);rw[cZ,NK,show(l.map fun C=>decide (entry<(C.1:Int))).findIdx? id=l.findIdx? (fun C=>decide (entry<(C.1:Int))) by rw[List.findIdx?_map];rfl] at this;refine this.mono ?_;rintro e w' ⟨rfl,A⟩;exact⟨rfl,u (YU.trans (A.mono YU.size))⟩)
 cases rB:l.findIdx? (fun C=>decide (entry<(C.1:Int))) with
 | none=>have bK:Hid (q0 entry l=[]):=u (by unfold q0;rw[rB]);rw[rB] at kj;clear cq lS rB ag Cw DP;go_enter func134,ntmps134;unfold nV at kj;go_wp2_with (go_at_call 60;refine kj.d.mono ?_;rintro e S ⟨rfl,ah⟩);go_ret;refine⟨_,_,_,rfl,?_,ah.d⟩;rw[bK.d];exact⟨[],⟨World.ownsRow_nil _ _ _ _,fun k e=>by cases e⟩,trivial⟩
 | some i=>
  have bK:Hid (q0 entry l=l.drop i):=u (by unfold q0;rw[rB]);have BF:i<l.length:=(List.findIdx?_eq_some_iff_getElem.1 rB).1;rw[rB] at kj;obtain⟨g,eX,R⟩:=vA ag.1 r;subst eX;have om:l.length<=rc:=by
   rcases ag.1.2 with⟨e,_⟩ | ⟨dM,af,ay,e,_,_,fR,_⟩
   ·cases e
   ·injection e with _ _ bm;subst bm;exact fR
  have BA:(rs.drop i).length=l.length-i:=by rw[List.length_drop,NK]
  have uu:Hid (∀W,Below w.heap.size w W->ey 204 #[.slice (some ⟨g,i*2,none⟩) (l.length-i) (rc-i)] W fun e w'=>∃a n c,e=.returned (.slice a n c)/\Hid (fB (db F w) w' (.slice a n c) (q0 entry l)/\Below w.heap.size w w')):=u (fun W A=>by
   have:=aul g (i*2) (rc-i) (rs.drop i) W (fun j bp aS=>by
    rw[<-SX,List.getElem?_drop] at aS;have:=ag.1.cells rfl _ _ aS;rw[Addr.add_lit,ax1] at this;exact(A.cell (p:=⟨g,i*2+j,none⟩) R).trans this) (e0 R A.size) (fun bp hu=>by
    rw[<-SX] at hu;exact Cw.one bp (List.mem_of_mem_drop hu)) r
   rw[BA] at this;refine this.mono ?_;rintro e w' ⟨v,rfl,v1,v2⟩;have ah:=A.trans (v2.mono A.size);obtain⟨aC,bA,rfl⟩:=cG v1;refine⟨aC,_,bA,rfl,u ⟨⟨rs.drop i,⟨?_,fun k e=>db.new (bX A.size (v1.lt k e).1)⟩,?_⟩,ah⟩⟩
   ·rw[bK.d,List.length_drop];exact ei bu v1
   ·rw[bK.d];exact(Cw.drop i).move (dj.mP ah))
  have nM:(0:Int)<=(i:Int):=r;have Lg:(i:Int)<=(l.length:Int):=r;have kA:(l.length:Int)<=(rc:Int):=r;have avS:(i:Int)<=(rc:Int):=r;clear cq lS rB ag Cw DP NK BA;unfold nV at kj;go_enter func134,ntmps134;go_wp2_with (first | (go_at_call 60;refine kj.d.mono ?_;rintro e S ⟨rfl,ah⟩) | (go_at_call 204;refine(uu.d _ ah.d).mono ?_;rintro e aA ⟨a,n,c,rfl,ab⟩));go_ret;exact⟨a,n,c,rfl,ab.d.1,ab.d.2⟩
def fB.wide{F':Nat->Prop}(h:fB F w v l)(hF:∀k,F k->F' k):fB F' w v l:=h.move (dj.to fun k _ av=>hF k av)
def Xr(h:w.heap.size<=W.heap.size):∀k,db F W k->db F w k:=fun k hk=>by
 rcases hk with⟨_,av⟩ | hk
 ·exact db.any av
 ·exact .inr (bX h hk)
def fB.set(h:fB F w v l){t:TypeId}(A:w.heap[b]?=some (.cells cs t (0,0)))(bM:t≠115)(b9:t≠112)(i:Nat)(x:Value):fB F (w.setCell ⟨b,i,none⟩ x) v l:=by obtain⟨rs,h1,H⟩:=h;refine⟨rs,⟨vO h1.1 A bM,h1.2⟩,H.ad (fun k fU e=>Below.heap_setCell _ _ _ k (show k≠b from fun bo=>?_))⟩;subst bo;exact oH e A (fun e=>b9 e.symm) rfl
def apO(w:World)(x y:Obj):((w.alloc x).alloc y).heap[w.heap.size]?=some x/\((w.alloc x).alloc y).heap[w.heap.size+1]?=some y/\((w.alloc x).alloc y).heap.size=w.heap.size+2:=by refine⟨(Below.heap_alloc (w.alloc x) y w.heap.size (by rw[cc];omega)).trans (bH w x),?_,by rw[cc,cc]⟩;have:=bH (w.alloc x) y;rwa [cc] at this
def aun(c9 aE:Value)(entry:Int)(j:qh)(w:World)(h1:fB F w c9 j.log)(H:fB F w aE j.ng)(kz:j.log.length<=10000)(nu:j.ng.length<=10000):ey 88 #[.agg #[c9,aE,q (j.count:Int)],q entry] w fun e w'=>∃a n c a2 b9 c2,e=.returned (.agg #[.slice a n c,.slice a2 b9 c2,q (j.count:Int)])/\fB (db F w) w' (.slice a n c) (q0 entry j.log)/\fB (db F w) w' (.slice a2 b9 c2) (q0 entry j.ng)/\Below w.heap.size w w':=by
 have hW:=u (And.intro kz nu);obtain⟨b6,lc,rfl⟩:=cG h1.choose_spec.1.1;obtain⟨bt,bD,rfl⟩:=cG H.choose_spec.1.1;generalize apk:j.log.length=s0 at h1 ⊢;generalize Wc:j.ng.length=vK at H ⊢;clear kz nu;obtain⟨aj8,acV,ac4⟩:=apO w (.cells #[.slice b6 s0 lc,.slice bt vK bD,q (j.count:Int)] 62) (.cells #[.slice none 0 0,.slice none 0 0,q 0] 62);have iD:Below w.heap.size w ((w.alloc (.cells #[.slice b6 s0 lc,.slice bt vK bD,q (j.count:Int)] 62)).alloc (.cells #[.slice none 0 0,.slice none 0 0,q 0] 62)):=cT.alloc (by rw[cc];omega) _;have yz:=u h1;have XK:=u H;clear h1 H apk Wc;go_enter func88,ntmps88;go_upto_region 1 with fail;generalize (w.alloc (.cells #[.slice b6 s0 lc,.slice bt vK bD,q (j.count:Int)] 62)).alloc (.cells #[.slice none 0 0,.slice none 0 0,q 0] 62)=hz at *
 have b4:Hid (∀W,Below hz.heap.size hz W->dp W w.heap.size 0=some (.slice b6 s0 lc)/\dp W w.heap.size 1=some (.slice bt vK bD)/\dp W w.heap.size 2=some (q (j.count:Int))/\dp W (w.heap.size+1) 0=some (.slice none 0 0)/\dp W (w.heap.size+1) 1=some (.slice none 0 0)/\dp W (w.heap.size+1) 2=some (q 0)/\W.frozen? ⟨w.heap.size+1,0,none⟩=false/\W.frozen? ⟨w.heap.size+1,1,none⟩=false/\W.frozen? ⟨w.heap.size+1,2,none⟩=false):=u (fun W A=>by
  have aI:=(A.block w.heap.size r).trans aj8;have aZ:=(A.block (w.heap.size+1) r).trans acV;exact⟨Z aI (i:=0) rfl,Z aI (i:=1) rfl,Z aI (i:=2) rfl,Z aZ (i:=0) rfl,Z aZ (i:=1) rfl,Z aZ (i:=2) rfl,aQ aZ,aQ aZ,aQ aZ⟩)
 have vz:Below hz.heap.size hz hz.drew:=⟨rfl,rfl,rfl,ap,fun _ _=>rfl⟩;have gu:Hid (ey 134 #[.slice b6 s0 lc,q entry] hz.drew fun e J=>∃a n c,e=.returned (.slice a n c)/\(dp J w.heap.size 0=some (.slice b6 s0 lc)/\dp J w.heap.size 1=some (.slice bt vK bD)/\dp J w.heap.size 2=some (q (j.count:Int)))/\Hid (Below hz.heap.size hz J/\fB (db F w) J (.slice a n c) (q0 entry j.log))):=u ((aqF _ entry j.log hz.drew ((yz.d.below iD).below vz) hW.d.1).mono (by
  rintro e J ⟨a,n,c,rfl,hx,dL⟩;have bJ:Below hz.heap.size hz J:=vz.trans (dL.mono vz.size);obtain⟨gm,aI,aZ,-⟩:=b4.d J bJ;exact⟨a,n,c,rfl,⟨gm,aI,aZ⟩,u ⟨bJ,hx.wide (Xr (bX iD.size vz.size))⟩⟩))
 have fG:Hid (∀W,Below hz.heap.size hz W->ey 134 #[.slice bt vK bD,q entry] W fun e J=>∃a n c,e=.returned (.slice a n c)/\(dp J w.heap.size 0=some (.slice b6 s0 lc)/\dp J w.heap.size 1=some (.slice bt vK bD)/\dp J w.heap.size 2=some (q (j.count:Int))/\dp J (w.heap.size+1) 0=some (.slice none 0 0)/\dp J (w.heap.size+1) 1=some (.slice none 0 0)/\dp J (w.heap.size+1) 2=some (q 0)/\J.frozen? ⟨w.heap.size+1,0,none⟩=false/\J.frozen? ⟨w.heap.size+1,1,none⟩=false/\J.frozen? ⟨w.heap.size+1,2,none⟩=false)/\Hid (Below W.heap.size W J/\fB (db F w) J (.slice a n c) (q0 entry j.ng))):=u (fun W A=>(aqF _ entry j.ng W (XK.d.below (iD.trans (A.mono iD.size))) hW.d.2).mono (by
  rintro e J ⟨a,n,c,rfl,hx,dL⟩;have bJ:Below hz.heap.size hz J:=A.trans (dL.mono A.size);exact⟨a,n,c,rfl,b4.d J bJ,u ⟨dL,hx.wide (Xr (bX iD.size A.size))⟩⟩))
 obtain⟨bk,c1,c2,-⟩:=b4.d hz (Below.refl _ _);have my:=u iD;have cW:Hid (∀W,Below hz.heap.size hz W->W.heap[w.heap.size+1]?=some (.cells #[.slice none 0 0,.slice none 0 0,q 0] 62 (0,0))):=u (fun W A=>(A.block (w.heap.size+1) r).trans acV);clear iD vz aj8 acV;go_region_held3 (fun w'=>w'.cell? ⟨w.heap.size,0,none⟩=some (.slice b6 s0 lc)/\w'.cell? ⟨w.heap.size,1,none⟩=some (.slice bt vK bD)/\w'.cell? ⟨w.heap.size,2,none⟩=some (q (j.count:Int))) (go_keep) (first | (go_at_call 134;refine(fG.d J jx.d.1).mono ?_;rintro e S ⟨a2,b9,tv,rfl,⟨z0,b3,z2,z3,z4,z5,R9,DJ,acY⟩,D1⟩) | (go_at_call 134;refine gu.d.mono ?_;rintro e J ⟨a,n,c,rfl,⟨pM,h0,gR⟩,jx⟩));all_goals go_wp2_with fail
 obtain⟨jd,kh⟩:=jx.d;obtain⟨JS,Xz⟩:=D1.d;have hK:Below w.heap.size w S:=my.d.trans ((jd.trans (JS.mono jd.size)).mono my.d.size);have aZ:=cW.d S (jd.trans (JS.mono jd.size));refine bodyPost_ret (v:=.agg #[.slice a n c,.slice a2 b9 tv,q (j.count:Int)]) (by simp[results,results88,go_sem, *]) rfl ⟨a,n,c,a2,b9,tv,rfl,?_,?_,?_⟩
 ·exact(((kh.below JS).set aZ K K _ _).set (hc aZ _) K K _ _).set (hc (hc aZ _) _) K K _ _
 ·exact((Xz.set aZ K K _ _).set (hc aZ _) K K _ _).set (hc (hc aZ _) _) K K _ _
 ·exact((hK.setCell (p:=⟨w.heap.size+1,0,none⟩) (Nat.le_succ _) _).setCell (p:=⟨w.heap.size+1,1,none⟩) (Nat.le_succ _) _).setCell (p:=⟨w.heap.size+1,2,none⟩) (Nat.le_succ _) _
def Al(l:je):bG:=⟨⟨#[108,111,103]⟩,[(⟨#[105,100]⟩,1),(⟨#[117,115,101,114]⟩,2),(⟨#[116,105,109,101]⟩,1)],l,0⟩
def Am(l:je):bG:=⟨⟨#[116,111,117,99,104]⟩,[(⟨#[105,100]⟩,1),(⟨#[116,97,98]⟩,2),(⟨#[114,111,119]⟩,1)],l,0⟩
def Jr{g:Nat}(h:w.heap[g]?=some (.cells cs e (0,0)))(X:lo<=g)(n:Nat)(ar:cs.size=n*size)(hm:n<=maxLen):w.ownsRow lo e size (.slice (some ⟨g,0,none⟩) n n) n cs.toList:=⟨by rw[ax7,ar],.inr ⟨g,n,cs,rfl,X,h,ap,hm,ar,by rw[<-ar,<-ax7,List.take_length]⟩⟩
def aqG{name:e6}{bl:List (e6×Nat)}{b0:Value}(hk:w.heap[k]?=some (.cells #[.string name,.slice (some ⟨c,0,none⟩) 3 3,b0,q 0] 137 (0,0)))(ai:w.heap[c]?=some (.cells cs 130 (0,0)))(j2:cs.toList=mO bl)(pN:bl.length=3)(hs:cs.size=6)(ag:fB F w b0 l)(auo:F k)(arW:F c):iW F w k ⟨name,bl,l,0⟩:=by
 obtain⟨rs,h1,H⟩:=ag;refine⟨.slice (some ⟨c,0,none⟩) 3 3,b0,rs,⟨auo,hk⟩,⟨?_,fun x e=>?_⟩,h1,H⟩
 ·show w.ownsRow 0 130 2 _ bl.length (mO bl);rw[pN,<-j2];exact Jr ai bu 3 hs K
 ·have:c=x:=by simpa [Value.ownBlock] using e
  exact this▸arW
def apl(c9 aE:Value)(n:Int)(l t:je)(w:World)(h1:fB F w c9 l)(H:fB F w aE t):ey 53 #[.agg #[c9,aE,q n]] w fun e w'=>∃a c,e=.returned (.slice a 2 c)/\p3 (db F w) w' (.slice a 2 c) [Al l,Am t]/\Below w.heap.size w w':=by
 obtain⟨b6,lc,rfl⟩:=cG h1.choose_spec.1.1;obtain⟨bt,bD,rfl⟩:=cG H.choose_spec.1.1;have yz:=u h1;have XK:=u H;clear h1 H;generalize l.length=s0 at *;generalize t.length=vK at *;go_enter func53,ntmps53;go_upto_region 1 with fail;have bJ:Below w.heap.size w (w.alloc (.cells #[.slice b6 s0 lc,.slice bt vK bD,q n] 62)):=cT;have aj8:=bH w (.cells #[.slice b6 s0 lc,.slice bt vK bD,q n] 62);have JS:Hid ((w.alloc (.cells #[.slice b6 s0 lc,.slice bt vK bD,q n] 62)).heap.size=w.heap.size+1):=u (cc _ _);generalize w.alloc (.cells #[.slice b6 s0 lc,.slice bt vK bD,q n] 62)=ih at *;have ah:Below ih.heap.size ih (ih.alloc (.cells #[.string ⟨#[105,100]⟩,q 1,.string ⟨#[117,115,101,114]⟩,q 2,.string ⟨#[116,105,109,101]⟩,q 1] 130)):=cT
 have acV:=bH ih (.cells #[.string ⟨#[105,100]⟩,q 1,.string ⟨#[117,115,101,114]⟩,q 2,.string ⟨#[116,105,109,101]⟩,q 1] 130);have Xz:Hid ((ih.alloc (.cells #[.string ⟨#[105,100]⟩,q 1,.string ⟨#[117,115,101,114]⟩,q 2,.string ⟨#[116,105,109,101]⟩,q 1] 130)).heap.size=ih.heap.size+1):=u (cc _ _);have YZ:=u (aet ⟨#[108,111,103]⟩ (some ⟨ih.heap.size,0,none⟩) 3 3 (ih.alloc (.cells #[.string ⟨#[105,100]⟩,q 1,.string ⟨#[117,115,101,114]⟩,q 2,.string ⟨#[116,105,109,101]⟩,q 1] 130)) K);go_upto_region 2 with(go_at_call 33;refine YZ.d.mono ?_;rintro e aA ⟨aI,bZ,rfl,qv,cg⟩);generalize ih.alloc (.cells #[.string ⟨#[105,100]⟩,q 1,.string ⟨#[117,115,101,114]⟩,q 2,.string ⟨#[116,105,109,101]⟩,q 1] 130)=h5 at *;have b3:=JS.d;have z2:=Xz.d
 have aqH:Below ih.heap.size ih aA:=ah.trans (cg.mono r);have bk:dp aA w.heap.size 0=some (.slice b6 s0 lc):=Z ((aqH.block w.heap.size r).trans aj8) (i:=0) rfl;have d2:dp aA aI 2=some (.slice none 0 0):=Z qv (i:=2) rfl;have f2:aA.frozen? ⟨aI,2,none⟩=false:=aQ qv;have gy:=u (hc (o:=2) qv (.slice b6 s0 lc));have aqI:aI<aA.heap.size:=(br qv).1;have B4:Below (w.heap.size+2) h5 (aA.setCell ⟨aI,2,none⟩ (.slice b6 s0 lc)):=(cg.mono r).setCell (p:=⟨aI,2,none⟩) (show w.heap.size+2<=aI by omega) _;have aqJ:=u B4;have En:=u (And.intro bJ (And.intro ah (And.intro aj8 acV)));clear aqH bJ ah cg aj8 acV qv B4 b3 z2;go_upto_region 3 with fail
 have hT:Hid ((aA.setCell ⟨aI,2,none⟩ (.slice b6 s0 lc)).heap[aI]?=some (.cells #[.string ⟨#[108,111,103]⟩,.slice (some ⟨ih.heap.size,0,none⟩) 3 3,.slice b6 s0 lc,q 0] 137 (0,0))/\(aA.setCell ⟨aI,2,none⟩ (.slice b6 s0 lc)).heap[ih.heap.size]?=some (.cells #[.string ⟨#[105,100]⟩,q 1,.string ⟨#[117,115,101,114]⟩,q 2,.string ⟨#[116,105,109,101]⟩,q 1] 130 (0,0))/\(aA.setCell ⟨aI,2,none⟩ (.slice b6 s0 lc)).heap[w.heap.size]?=some (.cells #[.slice b6 s0 lc,.slice bt vK bD,q n] 62 (0,0))/\Below w.heap.size w (aA.setCell ⟨aI,2,none⟩ (.slice b6 s0 lc))/\aI<(aA.setCell ⟨aI,2,none⟩ (.slice b6 s0 lc)).heap.size/\w.heap.size+2<=aI/\ih.heap.size=w.heap.size+1):=u (by
  obtain⟨bz,cz,fP,mq⟩:=En.d;have b3:=JS.d;have z2:=Xz.d;have y:=aqJ.d;refine⟨gy.d,(y.block ih.heap.size r).trans mq,(y.block w.heap.size r).trans ((cz.block w.heap.size r).trans fP),bz.trans ((cz.mono r).trans (y.mono r)),by rw[size_set];exact aqI,r,b3⟩)
 clear bk d2 f2 gy aqI aqJ En bZ YZ;generalize aA.setCell ⟨aI,2,none⟩ (.slice b6 s0 lc)=lU at *;have iR:Below lU.heap.size lU (lU.alloc (.cells #[.string ⟨#[105,100]⟩,q 1,.string ⟨#[116,97,98]⟩,q 2,.string ⟨#[114,111,119]⟩,q 1] 130)):=cT;have aqK:=bH lU (.cells #[.string ⟨#[105,100]⟩,q 1,.string ⟨#[116,97,98]⟩,q 2,.string ⟨#[114,111,119]⟩,q 1] 130);have ql:Hid ((lU.alloc (.cells #[.string ⟨#[105,100]⟩,q 1,.string ⟨#[116,97,98]⟩,q 2,.string ⟨#[114,111,119]⟩,q 1] 130)).heap.size=lU.heap.size+1):=u (cc _ _);have eS:=u (aet ⟨#[116,111,117,99,104]⟩ (some ⟨lU.heap.size,0,none⟩) 3 3 (lU.alloc (.cells #[.string ⟨#[105,100]⟩,q 1,.string ⟨#[116,97,98]⟩,q 2,.string ⟨#[114,111,119]⟩,q 1] 130)) K);go_upto_region 4 with(go_at_call 33;refine eS.d.mono ?_;rintro e cw ⟨aZ,dR,rfl,gQ,Ab⟩)
 generalize lU.alloc (.cells #[.string ⟨#[105,100]⟩,q 1,.string ⟨#[116,97,98]⟩,q 2,.string ⟨#[114,111,119]⟩,q 1] 130)=asG at *;obtain⟨m1,m2,m3,m4,m5,m6,m7⟩:=hT.d;have z5:=ql.d;have apP:Below lU.heap.size lU cw:=iR.trans (Ab.mono r);have c1:dp cw w.heap.size 1=some (.slice bt vK bD):=Z ((apP.block w.heap.size r).trans m3) (i:=1) rfl;have d2:dp cw aZ 2=some (.slice none 0 0):=Z gQ (i:=2) rfl;have f2:cw.frozen? ⟨aZ,2,none⟩=false:=aQ gQ;have aqL:aZ<cw.heap.size:=(br gQ).1;have ad0:Below lU.heap.size lU (cw.setCell ⟨aZ,2,none⟩ (.slice bt vK bD)):=apP.setCell (p:=⟨aZ,2,none⟩) (show lU.heap.size<=aZ by omega) _
 have fg:(cw.setCell ⟨aZ,2,none⟩ (.slice bt vK bD)).heap[lU.heap.size]?=some (.cells #[.string ⟨#[105,100]⟩,q 1,.string ⟨#[116,97,98]⟩,q 2,.string ⟨#[114,111,119]⟩,q 1] 130 (0,0)):=(Below.heap_setCell _ _ _ lU.heap.size (show lU.heap.size≠aZ by omega)).trans ((Ab.block lU.heap.size r).trans aqK);have bj:Hid (∀W,Below (cw.setCell ⟨aZ,2,none⟩ (.slice bt vK bD)).heap.size (cw.setCell ⟨aZ,2,none⟩ (.slice bt vK bD)) W->Below w.heap.size w W/\iW (db F w) W aI (Al l)/\iW (db F w) W aZ (Am t)):=u (fun W A=>by
  have cN:Below lU.heap.size lU W:=ad0.trans (A.mono ad0.size);have bL:Below w.heap.size w W:=m4.trans (cN.mono m4.size);have s2:=ad0.size;have aup:aZ<(cw.setCell ⟨aZ,2,none⟩ (.slice bt vK bD)).heap.size:=by rw[size_set];exact aqL
  refine⟨bL,?_,?_⟩
  ·exact aqG ((cN.block aI m5).trans m1) ((cN.block ih.heap.size r).trans m2) rfl rfl rfl (yz.d.move (dj.mP bL)) (db.new r) (db.new r)
  ·exact aqG ((A.block aZ aup).trans (hc (o:=2) gQ (.slice bt vK bD))) ((A.block lU.heap.size r).trans fg) rfl rfl rfl (XK.d.move (dj.mP bL)) (db.new (by have:=m4.size;omega)) (db.new (by have:=m4.size;omega)))
 have Ix:Hid (w.heap.size<=(cw.setCell ⟨aZ,2,none⟩ (.slice bt vK bD)).heap.size):=u (bX m4.size ad0.size);clear hT m1 m2 m3 m4 m5 m6 m7 z5 apP ad0 fg gQ aqL iR Ab aqK dR eS;go_upto_region 5 with fail;generalize cw.setCell ⟨aZ,2,none⟩ (.slice bt vK bD)=YS at *;have aqM:=bH YS (.cells #[M aI,M aZ] 83);have bK:=u (bj.d _ ((Below.refl _ _).alloc ap (.cells #[M aI,M aZ] 83)));have auq:=u aqM;clear aqM bj;go_wp2_with fail;go_ret;obtain⟨Y,am,bm⟩:=bK.d;refine⟨_,_,rfl,⟨[aI,aZ],rfl,⟨Jr auq.d bu 2 rfl K,fun x e=>?_⟩,by show 2<=1000;omega,fun i a b=>?_⟩,Y⟩
 ·have:YS.heap.size=x:=by simpa [Value.ownBlock] using e
  exact this▸db.new Ix.d
 ·match i,a,b with
  | 0,_,_=>exact am
  | 1,_,_=>exact bm
def PU(since:Nat)(form:Nat)(span O:Int)(log:je):Nat:=if form=2 then since else max since (Gb (O-span) log)
def aur(num since form gT:Nat)(span O:Int)(x:Nat)(c9:Value)(bt:Option Addr)(aX bD:Nat)(l:je)(w:World)(h:fB F w c9 l)(ab:∀C∈l,C.2.length=3)(X:l.length<=10000)(dV : -1000000000000<=span)(ep:span<=1000000000000)(dA : -1000000000000<=O)(er:O<=1000000000000):ey 89 #[.agg #[q (num:Int),q (since:Int),q (form:Int),q span,M x],.agg #[c9,.slice bt aX bD,q (gT:Int)],q O] w (gU w (q (PU since form span O l:Int))):=by
 obtain⟨b6,lc,rfl⟩:=cG h.choose_spec.1.1;obtain⟨aj8,acV,ac4⟩:=apO w (.cells #[q (num:Int),q (since:Int),q (form:Int),q span,M x] 124) (.cells #[.slice b6 l.length lc,.slice bt aX bD,q (gT:Int)] 62);have iD:eB w ((w.alloc (.cells #[q (num:Int),q (since:Int),q (form:Int),q span,M x] 124)).alloc (.cells #[.slice b6 l.length lc,.slice bt aX bD,q (gT:Int)] 62)):=cT.alloc (by rw[cc];omega) _;have n4:=u h;have hW:=u (And.intro ab X);have Df:=u ac4;have fr:IntKind.i64.wrap (O-span)=O-span:=mC;clear h ab ac4;generalize apk:l.length=s0 at *;have Hp:=u apk;clear apk;go_enter func89,ntmps89;go_upto_region 1 with fail
 generalize (w.alloc (.cells #[q (num:Int),q (since:Int),q (form:Int),q span,M x] 124)).alloc (.cells #[.slice b6 s0 lc,.slice bt aX bD,q (gT:Int)] 62)=hz at *;have p1:=Z aj8 (i:=1) rfl;have p2:=Z aj8 (i:=2) rfl;have fw:=Z aj8 (i:=3) rfl;have k6:=Z acV (i:=0) rfl;have q1:=Z acV (i:=1) rfl;have bN:=Z acV (i:=2) rfl;have afN:=u (And.intro aj8 acV);have my:=u iD;clear aj8 acV iD;by_cases av:form=2
 ·have sW:Hid (PU since form span O l=since):=u (by unfold PU;rw[if_pos av]);have aus:((form:Int)==2)=true:=by rw[beq_iff_eq];omega
  go_wp2_with fail;go_ret;exact⟨by rw[sW.d];rfl,my.d⟩
 ·have sW:Hid ((PU since form span O l:Int)=max (since:Int) (Gb (O-span) l:Int)):=u (by unfold PU;rw[if_neg av];omega);have aus:((form:Int)==2)=false:=by rw[cV];omega
  clear av;have aN:Hid (ey 135 #[.agg #[.slice b6 s0 lc,.slice bt aX bD,q (gT:Int)],q (O-span)] hz.drew fun e J=>e=.returned (q (Gb (O-span) l:Int))/\(dp J w.heap.size 1=some (q (since:Int))/\dp J w.heap.size 3=some (q span)/\dp J (w.heap.size+1) 0=some (.slice b6 s0 lc)/\dp J (w.heap.size+1) 1=some (.slice bt aX bD)/\dp J (w.heap.size+1) 2=some (q (gT:Int)))/\Hid (eB w J)):=u (by
   have vz:eB hz hz.drew:=⟨rfl,rfl,rfl,ap,fun _ _=>rfl⟩;refine(aug _ _ (gT:Int) (O-span) l hz.drew ((n4.d.below my.d).below vz) hW.d.1 (by have:=hW.d.2;have:=Hp.d;omega) ⟨_,_,_,rfl⟩).mono ?_;rintro e J ⟨rfl,A⟩;have bJ:eB hz J:=vz.trans (A.mono vz.size);obtain⟨cN,bL⟩:=afN.d;have aY:=Df.d;have aI:=(bJ.block w.heap.size r).trans cN;have aZ:=(bJ.block (w.heap.size+1) r).trans bL;exact⟨rfl,⟨Z aI (i:=1) rfl,Z aI (i:=3) rfl,Z aZ (i:=0) rfl,Z aZ (i:=1) rfl,Z aZ (i:=2) rfl⟩,u (my.d.trans (bJ.mono my.d.size))⟩)
  generalize Gb (O-span) l=aoc at *;go_upto_region 3 with fail;go_region_held3 (fun w'=>w'.cell? ⟨w.heap.size,1,none⟩=some (q (since:Int))/\w'.cell? ⟨w.heap.size,3,none⟩=some (q span)/\w'.cell? ⟨w.heap.size+1,0,none⟩=some (.slice b6 s0 lc)/\w'.cell? ⟨w.heap.size+1,1,none⟩=some (.slice bt aX bD)/\w'.cell? ⟨w.heap.size+1,2,none⟩=some (q (gT:Int))) (go_keep) (first | (go_at_call 135;refine aN.d.mono ?_;rintro e J ⟨rfl,⟨pM,h0,gR,lA,B6⟩,jx⟩));all_goals go_wp2_with fail
  all_goals
   go_ret;exact⟨by rw[sW.d];rfl,jx.d⟩
def aut(a b:List Nat):rz (a++b)=rz a++rz b:=by unfold rz;rw[List.map_append]
def aqN(a:List Nat):∀y∈rz a,y.oneCell'=true:=fun y hy=>by unfold rz at hy;obtain⟨k,_,rfl⟩:=List.mem_map.1 hy;rfl
def apm(v1 v2:Value)(t1 t2:List bG)(g:Nat)(w:World)(h1:p3 F w v1 t1)(H:p3 F w v2 t2)(R:w.heap[g]?=some (.cells #[v1,v2] 59 (0,0)))(X:t1.length+t2.length<=1000):ey 52 #[.slice (some ⟨g,0,none⟩) 2 2] w fun e w'=>∃a c,e=.returned (.slice a (t1.length+t2.length) c)/\p3 (db F w) w' (.slice a (t1.length+t2.length) c) (t1++t2)/\eB w w':=by
 obtain⟨JV,Y,cX,-,aI⟩:=h1;obtain⟨PW,am,cA,-,aZ⟩:=H;have XC:s3 [(v1,JV.length,rz JV),(v2,PW.length,rz PW)]=JV.length+PW.length:=by simp[s3]
 have cq:JQ [(v1,JV.length,rz JV),(v2,PW.length,rz PW)]=rz (JV++PW):=by rw[aut];simp[JQ]
 refine(aue (.slice (some ⟨g,0,none⟩) 2 2) [(v1,JV.length,rz JV),(v2,PW.length,rz PW)] w (Jr R bu 2 rfl K) (fun s hs=>?_) (by rw[XC];omega) (by show 2<=1000000;omega)).mono ?_
 ·rcases List.mem_cons.1 hs with rfl | hs
  ·exact⟨cX.1,aqN JV⟩
  ·obtain rfl:=ic hs;exact⟨cA.1,aqN PW⟩
 ·rintro e w' ⟨v,rfl,bz,cz⟩;rw[XC,cq] at bz;obtain⟨a,c,rfl⟩:=cG bz;refine⟨a,c,by rw[Y,am],⟨JV++PW,by rw[cu,cu,Y,am],⟨?_,fun k e=>db.new (bz.lt k (by rw[Y,am];exact e)).1⟩,by rw[cu];exact X,fun i ak A=>?_⟩,cz⟩
  ·rw[cu,<-Y,<-am];exact ei bu bz
  ·by_cases hi:i<JV.length
   ·rw[List.getElem_append_left hi,List.getElem_append_left r];exact(aI i hi r).move (dj.mP cz)
   ·rw[cu] at ak A;rw[List.getElem_append_right r,List.getElem_append_right r];have:=aZ (i-JV.length) r r;simp only[Y] at this ⊢;exact this.move (dj.mP cz)
def Grown(w w':World):Prop:=Below w.heap.size w w'
def Xs(h:w.heap.size<=W.heap.size):∀k,db (db F w) W k->db F w k:=fun k hk=>by
 rcases hk with⟨_,hk⟩ | hk
 ·exact hk
 ·exact .inr (bX h hk)
def Xt(h:w'.heap[b]?=w.heap[b]?):w'.frozen? ⟨b,i,none⟩=w.frozen? ⟨b,i,none⟩:=by simp only[World.frozen?,h]
def A0(since form:Nat)(span O:Int)(j:qh)(bd:List bG):List bG:=[Al (q0 (PU since form span O j.log) j.log),Am (q0 (PU since form span O j.log) j.ng)]++bd
def auu{bd:List bG}(num since form:Nat)(span O:Int)(x:Nat)(b6 bt hM:Option Addr)(cj lc aX bD CM nd:Nat)(j:qh)(w:World)(h1:fB F w (.slice b6 cj lc) j.log)(H:fB F w (.slice bt aX bD) j.ng)(ab:∀C∈j.log,C.2.length=3)(X:j.log.length<=10000)(nu:j.ng.length<=10000)(dV : -1000000000000<=span)(ep:span<=1000000000000)(Ax:bd.length<=900)(bw:p3 F w (.slice hM CM nd) bd)(ik:∀(W:World) (v:Value),Below w.heap.size w W->p3 (db F w) W v (A0 since form span O j bd)->∃F',uG F' td (A0 since form span O j bd) O t lo hi x v W)(dA : -1000000000000<=O)(er:O<=1000000000000):ey 51 #[.agg #[q (num:Int),q (since:Int),q (form:Int),q span,M x],.agg #[.slice b6 cj lc,.slice bt aX bD,q (j.count:Int)],.slice hM CM nd,q O] w (gU w (.bool (Uq (A0 since form span O j bd) O t))):=by
 obtain⟨aj8,acV,ac4⟩:=apO w (.cells #[q (num:Int),q (since:Int),q (form:Int),q span,M x] 124) (.cells #[.slice b6 cj lc,.slice bt aX bD,q (j.count:Int)] 62);have iD:Below w.heap.size w ((w.alloc (.cells #[q (num:Int),q (since:Int),q (form:Int),q span,M x] 124)).alloc (.cells #[.slice b6 cj lc,.slice bt aX bD,q (j.count:Int)] 62)):=cT.alloc (by rw[cc];omega) _;have yz:=u h1;have XK:=u H;have Y1:=u bw;have hW:=u (And.intro ab (And.intro X (And.intro nu Ax)));have Df:=u ac4;have ch:=u ik;have bn:=u (And.intro (And.intro dV ep) (And.intro dA er));clear h1 H ab bw ik X nu dV ep dA er ac4 Ax;go_enter func51,ntmps51;go_upto_region 1 with fail
 generalize (w.alloc (.cells #[q (num:Int),q (since:Int),q (form:Int),q span,M x] 124)).alloc (.cells #[.slice b6 cj lc,.slice bt aX bD,q (j.count:Int)] 62)=hz at *;have my:=u iD;have gy:Hid (∀W,Below hz.heap.size hz W->dp W w.heap.size 0=some (q (num:Int))/\dp W w.heap.size 1=some (q (since:Int))/\dp W w.heap.size 2=some (q (form:Int))/\dp W w.heap.size 3=some (q span)/\dp W w.heap.size 4=some (M x)/\dp W (w.heap.size+1) 0=some (.slice b6 cj lc)/\dp W (w.heap.size+1) 1=some (.slice bt aX bD)/\dp W (w.heap.size+1) 2=some (q (j.count:Int))):=u (fun W A=>by
  have aY:=Df.d;have aI:=(A.block w.heap.size r).trans aj8;have aZ:=(A.block (w.heap.size+1) r).trans acV;exact⟨Z aI (i:=0) rfl,Z aI (i:=1) rfl,Z aI (i:=2) rfl,Z aI (i:=3) rfl,Z aI (i:=4) rfl,Z aZ (i:=0) rfl,Z aZ (i:=1) rfl,Z aZ (i:=2) rfl⟩)
 have sW:Hid (∀W,Below hz.heap.size hz W->ey 89 #[.agg #[q (num:Int),q (since:Int),q (form:Int),q span,M x],.agg #[.slice b6 cj lc,.slice bt aX bD,q (j.count:Int)],q O] W fun e J=>e=.returned (q (PU since form span O j.log:Int))/\(dp J w.heap.size 0=some (q (num:Int))/\dp J w.heap.size 1=some (q (since:Int))/\dp J w.heap.size 2=some (q (form:Int))/\dp J w.heap.size 3=some (q span)/\dp J w.heap.size 4=some (M x)/\dp J (w.heap.size+1) 0=some (.slice b6 cj lc)/\dp J (w.heap.size+1) 1=some (.slice bt aX bD)/\dp J (w.heap.size+1) 2=some (q (j.count:Int)))/\(¬w.heap.size=J.heap.size/\¬w.heap.size+1=J.heap.size/\¬J.heap.size=w.heap.size/\¬J.heap.size=w.heap.size+1)/\(∀aB,aB<W.heap.size->aB<J.heap.size)/\(∀aB i,aB<W.heap.size->dp J aB i=dp W aB i)/\(∀aB i,aB<W.heap.size->J.frozen? ⟨aB,i,none⟩=W.frozen? ⟨aB,i,none⟩)/\Hid (Below W.heap.size W J/\Below hz.heap.size hz J)):=u (fun W A=>(aur num since form j.count span O x _ bt aX bD j.log W (yz.d.below (my.d.trans (A.mono my.d.size))) hW.d.1 hW.d.2.1 bn.d.1.1 bn.d.1.2 bn.d.2.1 bn.d.2.2).mono (by
  rintro e J ⟨rfl,bJ⟩;have ah:=A.trans (bJ.mono A.size);have aY:=Df.d;have dV:=ah.size;exact⟨rfl,gy.d J ah,⟨r,r,r,r⟩,fun aB cr=>e0 cr bJ.size,fun aB i cr=>bJ.cell (p:=⟨aB,i,none⟩) cr,fun aB i cr=>Xt (bJ.block aB cr),u ⟨bJ,ah⟩⟩))
 generalize aqO:(PU since form span O j.log:Int)=xq at *
 have apn:Hid (∀W,Below hz.heap.size hz W->ey 88 #[.agg #[.slice b6 cj lc,.slice bt aX bD,q (j.count:Int)],q xq] W fun e S=>∃a n c a2 b9 c2,e=.returned (.agg #[.slice a n c,.slice a2 b9 c2,q (j.count:Int)])/\(dp S w.heap.size 0=some (q (num:Int))/\dp S w.heap.size 1=some (q (since:Int))/\dp S w.heap.size 2=some (q (form:Int))/\dp S w.heap.size 3=some (q span)/\dp S w.heap.size 4=some (M x)/\dp S (w.heap.size+1) 0=some (.slice b6 cj lc)/\dp S (w.heap.size+1) 1=some (.slice bt aX bD)/\dp S (w.heap.size+1) 2=some (q (j.count:Int)))/\(¬w.heap.size=S.heap.size/\¬w.heap.size+1=S.heap.size/\¬S.heap.size=w.heap.size/\¬S.heap.size=w.heap.size+1)/\(∀aB,aB<W.heap.size->aB<S.heap.size)/\(∀aB i,aB<W.heap.size->dp S aB i=dp W aB i)/\(∀aB i,aB<W.heap.size->S.frozen? ⟨aB,i,none⟩=W.frozen? ⟨aB,i,none⟩)/\Hid (Below W.heap.size W S/\Below hz.heap.size hz S/\fB (db F w) S (.slice a n c) (q0 xq j.log)/\fB (db F w) S (.slice a2 b9 c2) (q0 xq j.ng))):=u (fun W A=>(aun _ _ xq j W (yz.d.below (my.d.trans (A.mono my.d.size))) (XK.d.below (my.d.trans (A.mono my.d.size))) hW.d.2.1 hW.d.2.2.1).mono (by
  rintro e S ⟨a,n,c,a2,b9,c2,rfl,h0,gR,bJ⟩;have ah:=A.trans (bJ.mono A.size);have ff:=bX my.d.size A.size;have aY:=Df.d;have dV:=ah.size;exact⟨a,n,c,a2,b9,c2,rfl,gy.d S ah,⟨r,r,r,r⟩,fun aB cr=>e0 cr bJ.size,fun aB i cr=>bJ.cell (p:=⟨aB,i,none⟩) cr,fun aB i cr=>Xt (bJ.block aB cr),u ⟨bJ,ah,h0.wide (Xr ff),gR.wide (Xr ff)⟩⟩))
 have PD:Hid (Below hz.heap.size hz hz.drew):=u ⟨rfl,rfl,rfl,ap,fun _ _=>rfl⟩;obtain⟨nc,s1,s2,dd,qQ,k3,vp,jm⟩:=gy.d hz (Below.refl _ _);have apQ:=u aqO;obtain⟨apR,apS,apT,apU⟩:¬w.heap.size=hz.heap.size/\¬w.heap.size+1=hz.heap.size/\¬hz.heap.size=w.heap.size/\¬hz.heap.size=w.heap.size+1:=by have aY:=Df.d;exact⟨r,r,r,r⟩
 clear aqO iD aj8 acV
 go_region_held3 (fun w'=>w'.cell? ⟨w.heap.size,0,none⟩=some (q (num:Int))/\w'.cell? ⟨w.heap.size,1,none⟩=some (q (since:Int))/\w'.cell? ⟨w.heap.size,2,none⟩=some (q (form:Int))/\w'.cell? ⟨w.heap.size,3,none⟩=some (q span)/\w'.cell? ⟨w.heap.size,4,none⟩=some (M x)/\w'.cell? ⟨w.heap.size+1,0,none⟩=some (.slice b6 cj lc)/\w'.cell? ⟨w.heap.size+1,1,none⟩=some (.slice bt aX bD)/\w'.cell? ⟨w.heap.size+1,2,none⟩=some (q (j.count:Int))) (go_keep) (first | (go_at_call 88;refine(apn.d _ (by first | exact jx.d.2 | exact jx.d.2.alloc jx.d.2.size _)).mono ?_;rintro e S ⟨a,n,c,a2,b9,c2,rfl,⟨z0,b3,z2,z3,z4,z5,R9,DJ⟩,⟨apV,apW,apX,apY⟩,apZ,Uo,aeQ,D1⟩) | (go_at_call 89;refine(sW.d _ (by first | exact PD.d | exact PD.d.alloc PD.d.size _)).mono ?_;rintro e J ⟨rfl,⟨pM,h0,gR,lA,B6,B7,M1,ahq⟩,⟨ap0,ap1,ap2,ap3⟩,ap4,XT,ap5,jx⟩))
 have dy:Hid ((S.alloc (.cells #[.slice a n c,.slice a2 b9 c2,q (j.count:Int)] 62)).heap[S.heap.size]?=some (.cells #[.slice a n c,.slice a2 b9 c2,q (j.count:Int)] 62 (0,0))/\Grown hz (S.alloc (.cells #[.slice a n c,.slice a2 b9 c2,q (j.count:Int)] 62))/\fB (db F w) (S.alloc (.cells #[.slice a n c,.slice a2 b9 c2,q (j.count:Int)] 62)) (.slice a n c) (q0 xq j.log)/\fB (db F w) (S.alloc (.cells #[.slice a n c,.slice a2 b9 c2,q (j.count:Int)] 62)) (.slice a2 b9 c2) (q0 xq j.ng)):=u (by
  obtain⟨-,Y2,ad3,ad4⟩:=D1.d;have dF:=(Below.refl S.heap.size S).alloc ap (.cells #[.slice a n c,.slice a2 b9 c2,q (j.count:Int)] 62);exact⟨bH S _,Y2.trans (dF.mono Y2.size),ad3.below dF,ad4.below dF⟩)
 generalize S.alloc (.cells #[.slice a n c,.slice a2 b9 c2,q (j.count:Int)] 62)=W at dy ⊢;generalize S.heap.size=aB at dy ⊢;rotate_left
 have dy:Hid ((((S.setCell ⟨J.heap.size,0,none⟩ (.slice a n c)).setCell ⟨J.heap.size,1,none⟩ (.slice a2 b9 c2)).setCell ⟨J.heap.size,2,none⟩ (q (j.count:Int))).heap[J.heap.size]?=some (.cells #[.slice a n c,.slice a2 b9 c2,q (j.count:Int)] 62 (0,0))/\Grown hz (((S.setCell ⟨J.heap.size,0,none⟩ (.slice a n c)).setCell ⟨J.heap.size,1,none⟩ (.slice a2 b9 c2)).setCell ⟨J.heap.size,2,none⟩ (q (j.count:Int)))/\fB (db F w) (((S.setCell ⟨J.heap.size,0,none⟩ (.slice a n c)).setCell ⟨J.heap.size,1,none⟩ (.slice a2 b9 c2)).setCell ⟨J.heap.size,2,none⟩ (q (j.count:Int))) (.slice a n c) (q0 xq j.log)/\fB (db F w) (((S.setCell ⟨J.heap.size,0,none⟩ (.slice a n c)).setCell ⟨J.heap.size,1,none⟩ (.slice a2 b9 c2)).setCell ⟨J.heap.size,2,none⟩ (q (j.count:Int))) (.slice a2 b9 c2) (q0 xq j.ng)):=u (by
  obtain⟨-,Y2,ad3,ad4⟩:=D1.d;have Nq:S.heap[J.heap.size]?=some (.cells #[.slice none 0 0,.slice none 0 0,q 0] 62 (0,0)):=(D1.d.1.block J.heap.size (by rw[cc];omega)).trans (bH J _);have qn:hz.heap.size<=J.heap.size:=jx.d.2.size;refine⟨hc (hc (hc Nq _) _) _,((Y2.setCell (p:=⟨J.heap.size,0,none⟩) qn _).setCell (p:=⟨J.heap.size,1,none⟩) qn _).setCell (p:=⟨J.heap.size,2,none⟩) qn _,?_,?_⟩
  ·exact((ad3.set Nq K K _ _).set (hc Nq _) K K _ _).set (hc (hc Nq _) _) K K _ _
  ·exact((ad4.set Nq K K _ _).set (hc Nq _) K K _ _).set (hc (hc Nq _) _) K K _ _)
 generalize ((S.setCell ⟨J.heap.size,0,none⟩ (.slice a n c)).setCell ⟨J.heap.size,1,none⟩ (.slice a2 b9 c2)).setCell ⟨J.heap.size,2,none⟩ (q (j.count:Int))=W at dy ⊢;generalize J.heap.size=aB at dy ⊢;rotate_left
 have dy:Hid ((((S.setCell ⟨hz.heap.size,0,none⟩ (.slice a n c)).setCell ⟨hz.heap.size,1,none⟩ (.slice a2 b9 c2)).setCell ⟨hz.heap.size,2,none⟩ (q (j.count:Int))).heap[hz.heap.size]?=some (.cells #[.slice a n c,.slice a2 b9 c2,q (j.count:Int)] 62 (0,0))/\Grown hz (((S.setCell ⟨hz.heap.size,0,none⟩ (.slice a n c)).setCell ⟨hz.heap.size,1,none⟩ (.slice a2 b9 c2)).setCell ⟨hz.heap.size,2,none⟩ (q (j.count:Int)))/\fB (db F w) (((S.setCell ⟨hz.heap.size,0,none⟩ (.slice a n c)).setCell ⟨hz.heap.size,1,none⟩ (.slice a2 b9 c2)).setCell ⟨hz.heap.size,2,none⟩ (q (j.count:Int))) (.slice a n c) (q0 xq j.log)/\fB (db F w) (((S.setCell ⟨hz.heap.size,0,none⟩ (.slice a n c)).setCell ⟨hz.heap.size,1,none⟩ (.slice a2 b9 c2)).setCell ⟨hz.heap.size,2,none⟩ (q (j.count:Int))) (.slice a2 b9 c2) (q0 xq j.ng)):=u (by
  obtain⟨-,Y2,ad3,ad4⟩:=D1.d;have Nq:S.heap[hz.heap.size]?=some (.cells #[.slice none 0 0,.slice none 0 0,q 0] 62 (0,0)):=(D1.d.1.block hz.heap.size (e0 (show hz.heap.size<(hz.alloc (.cells #[.slice none 0 0,.slice none 0 0,q 0] 62)).heap.size by rw[cc];omega) jx.d.1.size)).trans ((jx.d.1.block hz.heap.size (show hz.heap.size<(hz.alloc (.cells #[.slice none 0 0,.slice none 0 0,q 0] 62)).heap.size by rw[cc];omega)).trans (bH hz _));have qn:hz.heap.size<=hz.heap.size:=ap;refine⟨hc (hc (hc Nq _) _) _,((Y2.setCell (p:=⟨hz.heap.size,0,none⟩) qn _).setCell (p:=⟨hz.heap.size,1,none⟩) qn _).setCell (p:=⟨hz.heap.size,2,none⟩) qn _,?_,?_⟩
  ·exact((ad3.set Nq K K _ _).set (hc Nq _) K K _ _).set (hc (hc Nq _) _) K K _ _
  ·exact((ad4.set Nq K K _ _).set (hc Nq _) K K _ _).set (hc (hc Nq _) _) K K _ _)
 generalize ((S.setCell ⟨hz.heap.size,0,none⟩ (.slice a n c)).setCell ⟨hz.heap.size,1,none⟩ (.slice a2 b9 c2)).setCell ⟨hz.heap.size,2,none⟩ (q (j.count:Int))=W at dy ⊢;generalize hz.heap.size=aB at dy ⊢;all_goals
  obtain⟨PJ,XA,Yn,Yo⟩:=dy.d;have fL:Below hz.heap.size hz W:=XA;clear XA;have hK:Below w.heap.size w W:=my.d.trans (fL.mono my.d.size);have aiR:Hid (∀aU,Below W.heap.size W aU->(dp aU w.heap.size 4=some (M x)/\dp aU aB 0=some (.slice a n c)/\dp aU aB 1=some (.slice a2 b9 c2)/\dp aU aB 2=some (q (j.count:Int)))):=u (fun aU A=>by
   have k:=(A.block aB (br PJ).1).trans PJ;obtain⟨-,-,-,-,dt,-⟩:=gy.d aU (fL.trans (A.mono fL.size));exact⟨dt,Z k (i:=0) rfl,Z k (i:=1) rfl,Z k (i:=2) rfl⟩)
  have vz:Below W.heap.size W W.drew:=⟨rfl,rfl,rfl,ap,fun _ _=>rfl⟩;have Yv:Hid (ey 53 #[.agg #[.slice a n c,.slice a2 b9 c2,q (j.count:Int)]] W.drew fun e aA=>∃hI bA,e=.returned (.slice hI 2 bA)/\(dp aA w.heap.size 4=some (M x)/\dp aA aB 0=some (.slice a n c)/\dp aA aB 1=some (.slice a2 b9 c2)/\dp aA aB 2=some (q (j.count:Int)))/\Hid (Below W.heap.size W aA/\p3 (db F w) aA (.slice hI 2 bA) [Al (q0 xq j.log),Am (q0 xq j.ng)])):=u ((apl (F:=db F w) _ _ (j.count:Int) _ _ W.drew (Yn.below vz) (Yo.below vz)).mono (by
   rintro e aA ⟨hI,bA,rfl,t1,t2⟩;have cg:Below W.heap.size W aA:=vz.trans (t2.mono vz.size);exact⟨hI,bA,rfl,aiR.d aA cg,u ⟨cg,t1.move (dj.to fun k _ hk=>Xs (bX hK.size vz.size) k hk)⟩⟩))
  have Yw:Hid (∀aA hI bA,Below W.heap.size W aA->p3 (db F w) aA (.slice hI 2 bA) [Al (q0 xq j.log),Am (q0 xq j.ng)]->ey 52 #[.slice (some ⟨aA.heap.size,0,none⟩) 2 2] (aA.alloc (.cells #[.slice hI 2 bA,.slice hM CM nd] 59)) fun e bI=>∃r0 O5 ac,e=.returned (.slice r0 O5 ac)/\(dp bI w.heap.size 4=some (M x)/\dp bI aB 0=some (.slice a n c)/\dp bI aB 1=some (.slice a2 b9 c2)/\dp bI aB 2=some (q (j.count:Int)))/\Hid (Below W.heap.size W bI/\p3 (db F w) bI (.slice r0 O5 ac) (A0 since form span O j bd))):=u (fun aA hI bA cg Yx=>by
   have dF:Below aA.heap.size aA (aA.alloc (.cells #[.slice hI 2 bA,.slice hM CM nd] 59)):=cT;have Hs:=hK.trans (cg.mono hK.size);have PK:=Hs.trans (dF.mono Hs.size);refine(apm (F:=db F w) (.slice hI 2 bA) (.slice hM CM nd) _ bd aA.heap.size _ (Yx.move (fun k hk av=>⟨av,dF.block k hk⟩)) (Y1.d.move (dj.mP PK)) (bH aA _) (by have:=hW.d.2.2.2;show 2+bd.length<=1000;omega)).mono ?_;rintro e bI ⟨r0,ac,rfl,u1,u2⟩;have lM:=cg.trans ((dF.trans (u2.mono dF.size)).mono cg.size);refine⟨r0,_,ac,rfl,aiR.d bI lM,u ⟨lM,?_⟩⟩;unfold A0;rw[apQ.d];exact u1.move (dj.to fun k _ hk=>Xs PK.size k hk))
  have OS:Hid (∀bI r0 O5 ac,Below W.heap.size W bI->p3 (db F w) bI (.slice r0 O5 ac) (A0 since form span O j bd)->ey 90 #[M x,.slice r0 O5 ac,q O] bI fun e bh=>e=.returned (.bool (Uq (A0 since form span O j bd) O t))/\(dp bh w.heap.size 4=some (M x)/\dp bh aB 0=some (.slice a n c)/\dp bh aB 1=some (.slice a2 b9 c2)/\dp bh aB 2=some (q (j.count:Int)))/\Hid (Below w.heap.size w bh)):=u (fun bI r0 O5 ac lM Yy=>by
   have PL:=hK.trans (lM.mono hK.size);obtain⟨F',U⟩:=ch.d bI _ PL Yy;refine(apN bI U).mono ?_;rintro e bh ⟨rfl,v1⟩;exact⟨rfl,aiR.d bh (lM.trans (v1.mono lM.size)),u (PL.trans (v1.mono PL.size))⟩)
  obtain⟨g0,g1,g2,g3⟩:=aiR.d W (Below.refl _ _);clear PJ fL Yn Yo hK vz dy aiR Y1 ch sW apn yz XK gy nc s1 s2 dd qQ k3 vp jm pM h0 gR lA B6 B7 M1 ahq z0 b3 z2 z3 z4 z5 R9 DJ ap4 XT ap5 apZ Uo aeQ ap0 ap1 ap2 ap3 apV apW apX apY apR apS apT apU jx D1 PD;go_wp2_with fail;go_region_held3 (fun w'=>(w'.cell? ⟨w.heap.size,4,none⟩=some (M x)/\w'.cell? ⟨aB,0,none⟩=some (.slice a n c)/\w'.cell? ⟨aB,1,none⟩=some (.slice a2 b9 c2)/\w'.cell? ⟨aB,2,none⟩=some (q (j.count:Int)))) (go_keep) (first | (go_at_call 90;refine(OS.d bI r0 O5 ac JT.d.1 JT.d.2).mono ?_;rintro e bh ⟨rfl,⟨c3,cX,cA,AV⟩,Yz⟩) | (go_at_call 52;refine(Yw.d aA hI bA JU.d.1 JU.d.2).mono ?_;rintro e bI ⟨r0,O5,ac,rfl,⟨u0,u1,u2,u3⟩,JT⟩) | (go_at_call 53;refine Yv.d.mono ?_;rintro e aA ⟨hI,bA,rfl,⟨t0,t1,t2,t3⟩,JU⟩));all_goals go_wp2_with fail
  all_goals
   go_ret;exact⟨rfl,Yz.d⟩
structure n9 where
 num:Nat
 since:Nat
 form:Nat
 span:Int
 x:Nat
def xi(p:n9):List Value:=[q (p.num:Int),q (p.since:Int),q (p.form:Int),q p.span,M p.x]
def Xu(p:n9):Value:=.agg #[q (p.num:Int),q (p.since:Int),q (p.form:Int),q p.span,M p.x]
def oa(f:n9->Bool):List n9->Nat
 | []=>0
 | p::C=>if f p then p.num else oa f C
def anf{l:List n9}(h:w.ownsRow lo 124 5 (.slice a l.length c) l.length (l.flatMap xi))(i:Nat)(hi:i<l.length):∃g,a=some ⟨g,0,none⟩/\g<w.heap.size/\dp w g (i*5)=some (q (l[i].num:Int))/\dp w g (i*5+1)=some (q (l[i].since:Int))/\dp w g (i*5+2)=some (q (l[i].form:Int))/\dp w g (i*5+3)=some (q l[i].span)/\dp w g (i*5+4)=some (.pointer (some ⟨l[i].x,0,none⟩)):=by
 obtain⟨g,e,R⟩:=vA h r;subst e;letI:Inhabited n9:=⟨l[i]⟩
 have key:∀k (hk:k<5),(l.flatMap xi)[i*5+k]?=some ((xi l[i])[k]!):=fun k hk=>by have:=sP xi 5 K (fun _=>rfl) l (i*5+k) r;rw[show(i*5+k)/5=i by omega,show(i*5+k)%5=k by omega,getElem!_pos l i hi] at this;exact this
 have bk:=h.cells rfl _ _ (key 0 K);have c1:=h.cells rfl _ _ (key 1 K);have c2:=h.cells rfl _ _ (key 2 K);have dZ:=h.cells rfl _ _ (key 3 K);have gp:=h.cells rfl _ _ (key 4 K);rw[Addr.add_lit,ax1] at bk c1 c2 dZ gp;exact⟨g,rfl,R,bk,c1,c2,dZ,gp⟩
def ang(f:n9->Bool)(l:List n9)(j:Nat)(h:j<l.length):oa f (l.drop j)=if f l[j] then l[j].num else oa f (l.drop (j+1)):=by rw[List.drop_eq_getElem_cons h,oa]
def anh(f:n9->Bool)(l:List n9)(qW o:Nat)(co:Value)(b6 bt hM:Option Addr)(cj lc aX bD CM nd:Nat)(gT O:Int)(w:World)(aa:dp w qW o=some co)(mI:qW<w.heap.size)(aj:w.ownsRow 0 124 5 co l.length (l.flatMap xi))(X:l.length<=1000)(hF:∀p∈l,∀W,Below w.heap.size w W->ey 51 #[Xu p,.agg #[.slice b6 cj lc,.slice bt aX bD,q gT],.slice hM CM nd,q O] W (gU W (.bool (f p)))):ey 24 #[.pointer (some ⟨qW,o,none⟩),.agg #[.slice b6 cj lc,.slice bt aX bD,q gT],.slice hM CM nd,q O] w (gU w (q (oa f l:Int))):=by
 obtain⟨eL,rc,rfl⟩:=cG aj;have iD:Below w.heap.size w (w.alloc (.cells #[.slice b6 cj lc,.slice bt aX bD,q gT] 62)):=cT;have awq:=bH w (.cells #[.slice b6 cj lc,.slice bt aX bD,q gT] 62);have CK:=(iD.cell (p:=⟨qW,o,none⟩) mI).trans aa;have ani:Hid ((w.alloc (.cells #[.slice b6 cj lc,.slice bt aX bD,q gT] 62)).heap.size=w.heap.size+1):=u (cc _ _);have e9:Hid (∀W,Below w.heap.size w W->∀i (hi:i<l.length),∃g,eL=some ⟨g,0,none⟩/\g<w.heap.size/\dp W g (i*5)=some (q (l[i].num:Int))/\dp W g (i*5+1)=some (q (l[i].since:Int))/\dp W g (i*5+2)=some (q (l[i].form:Int))/\dp W g (i*5+3)=some (q l[i].span)/\dp W g (i*5+4)=some (.pointer (some ⟨l[i].x,0,none⟩))):=u (fun W A i hi=>by
  obtain⟨g,e,R,bk,c1,c2,dZ,gp⟩:=anf aj i hi;exact⟨g,e,R,(A.cell (p:=⟨g,i*5,none⟩) R).trans bk,(A.cell (p:=⟨g,i*5+1,none⟩) R).trans c1,(A.cell (p:=⟨g,i*5+2,none⟩) R).trans c2,(A.cell (p:=⟨g,i*5+3,none⟩) R).trans dZ,(A.cell (p:=⟨g,i*5+4,none⟩) R).trans gp⟩)
 have bj:=u hF;have tR:Hid (∀j (h:j<l.length),oa f (l.drop j)=if f l[j] then l[j].num else oa f (l.drop (j+1))):=u (ang f l);have nC:Hid (oa f (l.drop l.length)=0):=u (by rw[List.drop_length];rfl);have my:=u iD;clear aj hF aa iD;go_enter func24,ntmps24;go_upto_region 1 with fail;generalize w.alloc (.cells #[.slice b6 cj lc,.slice bt aX bD,q gT] 62)=hz at *;have cW:=u awq;clear awq;go_upto_region 2 with fail;go_loopg [16] (l.length+1) (fun U i wr=>∃j:Nat,j<=l.length/\i=q (j:Int)/\Hid (oa f l=oa f (l.drop j))/\Hid (Below hz.heap.size hz wr)/\l.length-j<U);case atStart=>exact⟨0,bu,rfl,u rfl,u (Below.refl _ _),r⟩
 case round=>
  obtain⟨j,aS,rfl,BM,bc,ae⟩:=hrel;clear CK;by_cases aD:j<l.length
  ·have cL:(j:Int)<(l.length:Int):=r;have hK:Below w.heap.size w wr:=my.d.trans (bc.d.mono my.d.size);obtain⟨g,rfl,R,bk,c1,c2,dZ,gp⟩:=e9.d wr hK j aD;have vt:IntKind.i64.wrap ((j:Int)+1)=(j:Int)+1:=mC;have bn:=u (tR.d j aD);have lm:=u (bj.d l[j] (ec aD));have ch:=u ae;have sz:=u aD;have ff:=bc.d.size;have Ap:=hK.size;have aY:=ani.d;generalize l[j]=p at *;have dF:Below wr.heap.size wr (wr.alloc (.cells #[q (p.num:Int),q (p.since:Int),q (p.form:Int),q p.span,M p.x] 124)):=cT;have aO:=bH wr (.cells #[q (p.num:Int),q (p.since:Int),q (p.form:Int),q p.span,M p.x] 124);have dP:=(dF.block w.heap.size r).trans ((bc.d.block w.heap.size r).trans cW.d);have kO:=u (hK.trans (dF.mono Ap));have gS:=u (bc.d.trans (dF.mono ff))
   clear aD ae bc hK dF;go_upto_region 4 with fail;clear bk c1 c2 dZ gp aY;generalize wr.alloc (.cells #[q (p.num:Int),q (p.since:Int),q (p.form:Int),q p.span,M p.x] 124)=W at *;have d0:=Z aO (i:=0) rfl;have d1:=Z aO (i:=1) rfl;have d2:=Z aO (i:=2) rfl;have d3:=Z aO (i:=3) rfl;have d4:=Z aO (i:=4) rfl;have c7:=Z dP (i:=0) rfl;have Y:=Z dP (i:=1) rfl;have am:=Z dP (i:=2) rfl;have aN:Hid (ey 51 #[.agg #[q (p.num:Int),q (p.since:Int),q (p.form:Int),q p.span,M p.x],.agg #[.slice b6 cj lc,.slice bt aX bD,q gT],.slice hM CM nd,q O] W fun e w'=>e=.returned (.bool (f p))/\dp w' wr.heap.size 0=some (q (p.num:Int))/\Hid (Below hz.heap.size hz w')):=u ((lm.d W kO.d).mono (by
    rintro e w' ⟨rfl,A⟩;exact⟨rfl,Z ((A.block wr.heap.size (br aO).1).trans aO) (i:=0) rfl,u (gS.d.trans (A.mono gS.d.size))⟩))
   have Xv:=BM;clear aO dP;generalize Xw:f p=anj at *;have atl:=u Xw;clear Xw;cases anj with
   | true=>have oG:Hid (oa f l=p.num):=u (by rw[Xv.d,bn.d];rfl);go_wp2_with (go_at_call 51;refine aN.d.mono ?_;rintro e S ⟨rfl,pM,jx⟩);go_ret;exact⟨by rw[oG.d];rfl,my.d.trans (jx.d.mono my.d.size)⟩
   | false=>
    have oG:Hid (oa f l=oa f (l.drop (j+1))):=u (by rw[Xv.d,bn.d];rfl);go_wp2_with (go_at_call 51;refine aN.d.mono ?_;rintro e S ⟨rfl,pM,jx⟩);have ae:=ch.d;have BE:=sz.d;go_roundg (gk-1);case measure=>omega
    case rel=>exact⟨j+1,r,by go_num,oG,jx,r⟩
  ·have eZ:j=l.length:=r;subst eZ;have cL:(l.length:Int)<=(l.length:Int):=r;have oG:Hid (oa f l=0):=u (by rw[BM.d,nC.d]);clear ae BM;go_wp2_with fail;go_ret;exact⟨by rw[oG.d];rfl,my.d.trans (bc.d.mono my.d.size)⟩
def ank(b6 bt:Option Addr)(cj lc aX bD:Nat)(gT:Int)(w:World):ey 21 #[.agg #[.slice b6 cj lc,.slice bt aX bD,q gT]] w (gU w (q gT)):=by have iD:eB w (w.alloc (.cells #[.slice b6 cj lc,.slice bt aX bD,q gT] 62)):=cT;have dT:=u iD;clear iD;go_enter func21,ntmps21;go_wp2_with fail;go_ret;exact⟨rfl,dT.d⟩
def aqP(qW o n c:Nat)(a:Option Addr)(w:World)(aa:dp w qW o=some (.slice a n c)):ey 26 #[.pointer (some ⟨qW,o,none⟩)] w (ov w (.bool (decide (6<=n)))):=by
 by_cases h:6<=n
 ·have cC:(6:Int)<=(n:Int):=r;have ht:Hid (decide (6<=n)=true):=u (ax3 h);go_enter func26,ntmps26;go_wp2_with fail;go_ret;exact⟨by first | rfl | (rw[ht.d];rfl),rfl⟩
 ·have cC:(n:Int)<(6:Int):=r;have H:¬(6:Int)<=(n:Int):=r;have ht:Hid (decide (6<=n)=false):=u (ax2 h);go_enter func26,ntmps26;go_wp2_with fail;go_ret;exact⟨by first | rfl | (rw[ht.d];rfl),rfl⟩
def Xx(n:Int)(E:Nat)(a:Option Addr)(m c:Nat)(w:World)(eU:dp w E 0=some (q n))(X:E<w.heap.size):ey 46 #[.slice a m c,M E] w (gU w (.agg #[q n,.slice a m c])):=by
 have dF:eB w (w.alloc (.cells #[q 0,.slice none 0 0] 115)):=cT;have aO:=bH w (.cells #[q 0,.slice none 0 0] 115);have atm:=(dF.cell (p:=⟨E,0,none⟩) X).trans eU;have dT:=u dF;go_enter func46,ntmps46;go_upto_region 1 with fail;generalize w.alloc (.cells #[q 0,.slice none 0 0] 115)=W at *;have c3:=Z aO (i:=0) rfl;have cX:=Z aO (i:=1) rfl;have g0:=aQ (i:=0) aO;have g1:=aQ (i:=1) aO;clear dF aO eU;go_wp2_with fail;refine bodyPost_ret (v:=.agg #[q n,.slice a m c]) (by simp[results,results46,go_sem, *]) rfl ⟨rfl,?_⟩;exact(dT.d.setCell (p:=⟨w.heap.size,0,none⟩) ap _).setCell (p:=⟨w.heap.size,1,none⟩) ap _
def qX(td kg:List eb):Prop:=td.length<=kg.length/\∀i (h:i<td.length) (cC:i<kg.length),kg[i].name=td[i].name/\kg[i].bl=td[i].bl
def qX.src(h:qX td kg){c n:e6}{aq:dC}(bb:nZ td c n=some aq):∃iA,nZ kg c n=some iA/\bO iA=bO aq:=by
 unfold nZ at bb ⊢;obtain⟨i,hi,bb⟩:=aV bb;obtain⟨t,au,rfl⟩:=Option.map_eq_some_iff.1 bb;unfold nK at hi;obtain⟨aI,aZ,a6⟩:=List.findIdx?_eq_some_iff_getElem.1 hi;have X:i<td.length:=by simpa using aI
 have me:i<kg.length:=e0 X h.1;have av:nK (kg.map (·.name)) n=some i:=by
  unfold nK;rw[List.findIdx?_eq_some_iff_getElem];refine⟨by simpa using me,?_,fun j aS=>?_⟩
  ·rw[List.getElem_map] at aZ ⊢;rw[(h.2 i X me).1];exact aZ
  ·have:=a6 j aS;rw[List.getElem_map] at this ⊢;rw[(h.2 j r r).1];exact this
 rw[av,b2,fC me,eQ];refine⟨_,rfl,?_⟩;rw[fC X] at au;obtain rfl:=bx au;show(⟨c,kg[i].bl⟩:eO)=⟨c,td[i].bl⟩;rw[(h.2 i X me).2]
def qX.add{td kg:List eb}(h:qX td kg):∀(V:lh) (I bU e:List dC),bU.map bO=I.map bO->hd td I V=some e->∃bo,hd kg bU V=some bo/\bo.map bO=e.map bO
 | [],I,bU,e,hm,ak=>by obtain rfl:=bx ak;exact⟨bU,rfl,hm⟩
 | s::C,I,bU,e,hm,ak=>by
  rw[hd] at ak;cases hs:nZ td s.2 s.1 with
  | none=>rw[hs] at ak;cases ak
  | some aq=>
   rw[hs] at ak;simp only[] at ak;split at ak
   ·cases ak
   ·rename_i hw;obtain⟨iA,h1,H⟩:=h.src hs;rw[hd,h1];simp only[];rw[if_neg (by rw[<-Nr,hm,Nr];exact hw)];exact h.add C (I++[aq]) (bU++[iA]) e (by rw[List.map_append,List.map_append,hm];simp[H]) ak
def Xy(h:qX td kg)(cC:qX kg td)(V:lh)(I bU:List dC)(hm:bU.map bO=I.map bO):(hd td I V=none/\hd kg bU V=none)\/∃e bo,hd td I V=some e/\hd kg bU V=some bo/\bo.map bO=e.map bO:=by
 cases ak:hd td I V with
 | some e=>obtain⟨bo,h1,H⟩:=h.add V I bU e hm ak;exact .inr ⟨e,bo,rfl,h1,H⟩
 | none=>
  cases A:hd kg bU V with
  | none=>exact .inl ⟨rfl,rfl⟩
  | some bo=>obtain⟨e,h1,_⟩:=cC.add V bU I bo hm.symm A;rw[ak] at h1;cases h1
def anl(h:qX td kg)(cC:qX kg td)(t:aL):∀(I bU:List dC),bU.map bO=I.map bO->eh kg bU t=eh td I t:=by
 induction t with
 | nil=>intro _ _ _;rfl
 | cons a b cn i2=>intro I bU hm;rw[eh,eh,cn I bU hm,i2 I bU hm]
 | node k s n v p U cn i2=>intro I bU hm;rw[eh,eh,cn I bU hm,i2 I bU hm,<-E1,<-E1,hm]
 | query e l w g hv cn i2 i3 i4=>
  intro I bU hm;rw[eh,eh];rcases Xy h cC l I bU hm with⟨Y,am⟩ | ⟨x,j1,Y,am,bm⟩
  ·rw[Y,am]
  ·rw[Y,am];simp only[];rw[cn x j1 bm,i2 x j1 bm,i3 x j1 bm,i4 x j1 bm]
def anm(h:qX td kg)(cC:qX kg td)(t:aL):∀(I bU:List dC),bU.map bO=I.map bO->hR kg t bU=hR td t I:=by
 induction t with
 | nil=>intro _ _ _;rfl
 | cons a b cn i2=>intro I bU hm;rw[hR,hR,cn I bU hm,i2 I bU hm]
 | node k s n v p U cn i2=>intro I bU hm;rw[hR,hR,cn I bU hm,i2 I bU hm,<-E1,<-E1,hm]
 | query e l w g hv cn i2 i3 i4=>
  intro I bU hm;rw[hR,hR];rcases Xy h cC l I bU hm with⟨Y,am⟩ | ⟨x,j1,Y,am,bm⟩
  ·rw[Y,am]
  ·rw[Y,am];simp only[];rw[cn x j1 bm,i2 x j1 bm,i3 x j1 bm,i4 x j1 bm]
def ann(h:qX td kg)(cC:qX kg td)(t:aL):pj kg t=pj td t:=by unfold pj;rw[anl h cC t [] [] rfl,anm h cC t [] [] rfl]
def pq(bd:List bG):List eb:=bd.map fun t=>⟨t.name,0,t.bl⟩
def ano{bd:List bG}(h:oJ td bd):qX td (pq bd)/\qX (pq bd) td:=by
 unfold oJ at h;have X:td.length=bd.length:=by simpa using congrArg List.length h
 have key:∀i (h1:i<td.length) (H:i<bd.length),td[i].name=bd[i].name/\td[i].bl=bd[i].bl:=fun i h1 H=>by have:=congrArg (fun l=>l[i]?) h;simp only[List.getElem?_map,fC h1,fC H,eQ,Option.some.injEq,Prod.mk.injEq] at this;exact this
 have nu:(pq bd).length=bd.length:=by unfold pq;rw[cZ]
 refine⟨⟨r,fun i a b=>?_⟩,⟨r,fun i a b=>?_⟩⟩
 ·have:=key i a r;simp only[pq,List.getElem_map];exact⟨this.1.symm,this.2.symm⟩
 ·have:=key i b r;simp only[pq,List.getElem_map];exact this
def anp{bd:List bG}(h:oJ td bd)(s:e6):hN td s=hN (pq bd) s:=by
 unfold hN;obtain⟨h1,H⟩:=ano h;split
 ·rfl
 ·split
  ·rfl
  ·exact(ann h1 H _).symm
def h2.bd(h:h2 F w b ex g)(ok:hA N g):∃aE,w.heap[b]?=some (.cells #[aE,ex.a,ex.b,ex.c,ex.aq,ex.e,q g.dS] 67 (0,0))/\F b/\p3 F w aE g.bY:=by obtain⟨c,aE,bs,aw,h1,H,ab⟩:=h;have sub:∀i,dj (eT F c i) F w w:=fun i=>dj.to fun k _ hk=>hk.1;exact⟨aE,h1.2,h1.1.1,bs,aw,H.move (sub 0),by have:=ok.wA;omega,fun i a b=>(ab i a b).move (sub (i+1))⟩
def p3.B{F:Nat->Prop}{w:World}{aE:Value}{B:List bG}(h:p3 F w aE B)(ai:∀t∈B,t.bl.length<=4):∃td,mu w aE td/\oJ td B:=by
 obtain⟨bs,e,C,X,k⟩:=h;have lX:(List.zipWith (fun b t=>(⟨t.name,b,t.bl⟩:eb)) bs B).map (·.iy)=bs:=by refine List.ext_getElem (by simp[e]) (fun i a b=>?_);simp
 refine⟨List.zipWith (fun b t=>(⟨t.name,b,t.bl⟩:eb)) bs B,⟨by rw[lX];exact C.1,by simp only[List.length_zipWith];omega,fun t au=>?_⟩,?_⟩
 ·obtain⟨i,hi,rfl⟩:=List.getElem_of_mem au;have fM:i<bs.length/\i<B.length:=by simp only[List.length_zipWith] at hi;omega
  obtain⟨fl,b0,rs,aI,aZ,a6,dt⟩:=k i fM.1 fM.2;have pN:=ai _ (ec fM.2);simp only[List.getElem_zipWith];refine⟨⟨_,aI.2,rfl⟩,fun c=>?_⟩;obtain⟨gB,dz,yL⟩:=cG aZ.1;have G0:=aZ.1;rw[yL] at G0;refine⟨gB,dz,_,aI.2,by rw[yL];rfl,?_,by show B[i].bl.length<=_;omega⟩;have lS:h4 (B[i].bl.map mb)=mO B[i].bl:=by unfold h4 mO;rw[List.flatMap_map];rfl
  rw[lS];exact G0
 ·unfold oJ;refine List.ext_getElem (by simp[e]) (fun i a b=>?_);simp
def jn.n0{l:Nat}{t:TypeId}(A:jn F w b cs t)(hs:eu U l h w w')(ji:t≠247)(bM:t≠151)(b9:t≠242):jn F w' b cs t:=⟨A.1,hs.other A.2 ji bM b9⟩
def eg.n0{l:Nat}(A:eg F w e size v n xs)(hs:eu U l h w w')(ji:e≠247)(bM:e≠151)(b9:e≠242):eg F w' e size v n xs:=⟨hs.row ji bM b9 A.1,A.2⟩
def dk.n0{l:Nat}(hs:eu U l h w w'){ls:je}(ag:dk F w rs ls):dk F w' rs ls:=ag.ad (fun _ _ e=>(hs.other e K K K).trans e.symm)
def fB.n0{U l h:Nat}{F:Nat->Prop}{w w':World}{v:Value}{ls:je}(aS:fB F w v ls)(hs:eu U l h w w'):fB F w' v ls:=by obtain⟨rs,h1,H⟩:=aS;exact⟨rs,h1.n0 hs K K K,H.n0 hs⟩
def iW.n0{U l h:Nat}{F:Nat->Prop}{w w':World}{b:Nat}{t:bG}(au:iW F w b t)(hs:eu U l h w w'):iW F w' b t:=by obtain⟨fl,b0,rs,h1,H,ab,aK⟩:=au;exact⟨fl,b0,rs,h1.n0 hs K K K,H.n0 hs K K K,ab.n0 hs K K K,aK.n0 hs⟩
def p3.n0{U l h:Nat}{F:Nat->Prop}{w w':World}{aE:Value}{B:List bG}(au:p3 F w aE B)(hs:eu U l h w w'):p3 F w' aE B:=by obtain⟨bs,h1,H,ab,aK⟩:=au;exact⟨bs,h1,H.n0 hs K K K,ab,fun i a b=>(aK i a b).n0 hs⟩
def h2.n0{U l h:Nat}{F:Nat->Prop}{w w':World}{b:Nat}{ex:tT}{g:hG}(he:h2 F w b ex g)(hs:eu U l h w w'):h2 F w' b ex g:=by obtain⟨c,aE,bs,aw,h1,H,ab⟩:=he;exact⟨c,aE,bs,aw,h1.n0 hs K K K,H.n0 hs K K K,fun i a b=>(ab i a b).n0 hs⟩
def kQ.n0{l:Nat}(aj:kQ w)(hs:eu U l h w w')(X:∃cs t m,w.heap[2]?=some (.cells cs t m)/\t≠247/\t≠151/\t≠242):kQ w':=by obtain⟨cs,t,m,e,ji,bM,b9⟩:=X;exact aj.a8 ((hs.other e ji bM b9).trans e.symm)
def ad5(l:je):Prop:=∀C∈l,C.2.length=3/\∀v∈C.2,fv v
structure JW (j:qh):Prop where
 vc:j.count<=60
 log:j.log.length<=j.count
 Py:j.ng.length<=150*j.count
 cX:ad5 j.log
 cA:ad5 j.ng
def auv{C:Nat×List al}(h:C∈q0 entry l):C∈l:=by
 unfold q0 at h;split at h
 ·cases h
 ·exact List.mem_of_mem_drop h
def aqQ(entry:Int)(l:je):(q0 entry l).length<=l.length:=by
 unfold q0;split
 ·exact bu
 ·rw[List.length_drop];omega
def ad5.behind(h:ad5 l):ad5 (q0 entry l):=fun C ag=>h C (auv ag)
def auw{bd:List bG}(bi:nW bd){j:qh}(h:JW j)(since form:Nat)(span O:Int):nW (A0 since form span O j bd):=by
 have bq:=h.vc;have a2:=h.log;have a3:=h.Py;refine⟨fun t au=>?_,fun t au=>?_⟩
 ·unfold A0 at au;rcases ax5 au with au | au
  ·rcases List.mem_cons.1 au with rfl | au
   ·exact bX (aqQ _ _) r
   ·obtain rfl:=ic au;exact bX (aqQ _ _) r
  ·exact bi.vc t au
 ·unfold A0 at au;rcases ax5 au with au | au
  ·rcases List.mem_cons.1 au with rfl | au
   ·exact fun C ag=>h.cX.behind C ag
   ·obtain rfl:=ic au;exact fun C ag=>h.cA.behind C ag
  ·exact bi.fit t au
def CN(s:e6):al:=⟨2,0,s.data.toList⟩
def nh(cU:e6)(time:Int)(ts:List fo)(j:qh):qh:=⟨j.log++[(j.count+1,[iX ((j.count+1:Nat):Int),CN cU,iX time])],j.ng++ts.map (fun t=>(j.count+1,[iX ((j.count+1:Nat):Int),CN t.1,iX t.2])),j.count+1⟩
def aqR{s:e6}(h:jf s.data.toList=true):fv (CN s):=⟨by simp[CN],by simp[CN],by simp[CN],fun _=>rfl,fun e=>absurd rfl e,h⟩
def JW.with{j:qh}(h:JW j)(ai:j.count<60){cU:e6}{time:Int}{ts:List fo}(hu:jf cU.data.toList=true)(t1 : -1000000000000<=time)(t2:time<=1000000000000)(X:ts.length<=150)(mi:∀t∈ts,jf t.1.data.toList=true/\-1000000000000<=t.2/\t.2<=1000000000000):JW (nh cU time ts j):=by
 have a2:=h.log;have a3:=h.Py;have hid:fv (iX ((j.count+1:Nat):Int)):=Ef r r;refine⟨ai,?_,?_,fun C ag=>?_,fun C ag=>?_⟩
 ·show(j.log++[_]).length<=j.count+1;rw[cu];show _+1<=_;omega
 ·show(j.ng++ts.map _).length<=150*(j.count+1);rw[cu,cZ];omega
 ·rcases ax5 ag with ag | ag
  ·exact h.cX C ag
  ·obtain rfl:=ic ag;refine⟨rfl,fun v hv=>?_⟩;simp only[List.mem_cons,ax4,or_false] at hv;rcases hv with rfl | rfl | rfl
   ·exact hid
   ·exact aqR hu
   ·exact Ef t1 t2
 ·rcases ax5 ag with ag | ag
  ·exact h.cA C ag
  ·obtain⟨t,au,rfl⟩:=List.mem_map.1 ag;obtain⟨bz,cz,fP⟩:=mi t au;refine⟨rfl,fun v hv=>?_⟩;simp only[List.mem_cons,ax4,or_false] at hv;rcases hv with rfl | rfl | rfl
   ·exact hid
   ·exact aqR bz
   ·exact Ef cz fP
def aqS{α:Type}:∀(l c0:List α),l.Nodup->(∀x∈l,x∈c0)->l.length<=c0.length
 | [],c0,_,_=>bu
 | a::C,c0,ar,hs=>by
  obtain⟨s1,s2,e⟩:=List.append_of_mem (hs a (ax6 ..));subst e;have aqT:=List.nodup_cons.1 ar;have:=aqS C (s1++s2) aqT.2 (fun x aa=>by
   have aux:=hs x (List.mem_cons_of_mem _ aa);rcases ax5 aux with h | h
   ·exact List.mem_append_left _ h
   ·rcases List.mem_cons.1 h with h | h
    ·subst h;exact absurd aa aqT.1
    ·exact List.mem_append_right _ h)
  rw[cu] at this;rw[di,cu,di];omega
def auy{l:List fo}(h:Ak hf l):∀(j:Nat) (_:1<=j) (aS:j<=l.length),(dO l j).Pairwise (fun x y=>hf x y<0)/\∀x∈dO l j,x∈l/\hf x (l[j-1]'r)<=0:=by
 intro j;induction j with
 | zero=>intro h1;omega
 | succ j aH=>
  intro _ aS;by_cases aw:j=0
  ·subst aw;have e:dO l 1=[l[0]'r]:=by
    rw[dO];cases l with
    | nil=>simp at aS
    | cons a C=>rfl
   rw[e];refine⟨List.pairwise_singleton _ _,fun x aa=>?_⟩;obtain rfl:=ic aa;exact⟨ec _,by show hf _ _<=0;rw[vl.refl];exact Int.le_refl _⟩
  ·obtain⟨p1,p2⟩:=aH r r;rw[N2 r (by omega:j<l.length)];split
   ·rename_i heq;refine⟨p1,fun x aa=>⟨(p2 x aa).1,?_⟩⟩;have:=(p2 x aa).2;rw[<-heq] at this;exact this
   ·rename_i cy;have hle:hf (l[j-1]'r) (l[j]'r)<0:=by have h1:=(List.pairwise_iff_getElem.1 h) (j-1) j r r r;have H:=vl.mX (l[j]'r) (l[j-1]'r);have ab:hf (l[j]'r) (l[j-1]'r)≠0:=fun e=>cy (Ng e);omega
    refine⟨List.pairwise_append.2 ⟨p1,List.pairwise_singleton _ _,fun x aa y hy=>?_⟩,fun x aa=>?_⟩
    ·obtain rfl:=ic hy;exact vl.lt (p2 x aa).2 (Int.le_of_lt hle) (.inr hle)
    ·rcases ax5 aa with aa | aa
     ·exact⟨(p2 x aa).1,Int.le_of_lt (vl.lt (p2 x aa).2 (Int.le_of_lt hle) (.inr hle))⟩
     ·obtain rfl:=ic aa;exact⟨ec _,Int.le_of_eq (vl.refl (l[j]'r))⟩
def apo(ls:List (List fo)):(hj ls).Pairwise (fun x y=>hf x y<0)/\(∀x∈hj ls,x∈ls.flatten)/\∀c0:List fo,(∀x∈ls.flatten,x∈c0)->(hj ls).length<=c0.length:=by
 have key:(hj ls).Pairwise (fun x y=>hf x y<0)/\∀x∈hj ls,x∈ls.flatten:=by
  unfold hj p7;by_cases aw:(kM hf ls.flatten).length=0
  ·rw[aw,dO];exact⟨List.Pairwise.nil,fun x aa=>by cases aa⟩
  ·obtain⟨p1,p2⟩:=auy (UH vl ls.flatten) (kM hf ls.flatten).length r ap;exact⟨p1,fun x aa=>(sS _ _).mem_iff.1 (p2 x aa).1⟩
 refine⟨key.1,key.2,fun c0 cv=>aqS _ c0 ?_ (fun x aa=>cv x (key.2 x aa))⟩;refine key.1.imp (fun {a b} pA e=>?_);subst e;rw[vl.refl] at pA;exact absurd pA r
def XB(v1 v2:Value)(l1 bT:je)(g:Nat)(w:World)(h1:fB F w v1 l1)(H:fB F w v2 bT)(R:w.heap[g]?=some (.cells #[v1,v2] 60 (0,0)))(X:l1.length+bT.length<=1000000):ey 49 #[.slice (some ⟨g,0,none⟩) 2 2] w fun e w'=>∃a n c,e=.returned (.slice a n c)/\fB (db F w) w' (.slice a n c) (l1++bT)/\eB w w':=by
 obtain⟨AI,cX,aI⟩:=h1;obtain⟨Cp,cA,aZ⟩:=H;have XC:jV [(v1,l1.length,cQ AI),(v2,bT.length,cQ Cp)]=l1.length+bT.length:=by simp[jV]
 have cq:r3 [(v1,l1.length,cQ AI),(v2,bT.length,cQ Cp)]=cQ (AI++Cp):=by unfold cQ;rw[List.flatMap_append];simp[r3]
 refine(am6 (.slice (some ⟨g,0,none⟩) 2 2) [(v1,l1.length,cQ AI),(v2,bT.length,cQ Cp)] w (Jr R bu 2 rfl K) (fun s hs=>?_) (by rw[XC];omega) (by show 2<=1000000;omega)).mono ?_
 ·rcases List.mem_cons.1 hs with rfl | hs
  ·exact⟨cX.1,aI.one⟩
  ·obtain rfl:=ic hs;exact⟨cA.1,aZ.one⟩
 ·rintro e w' ⟨v,rfl,bz,cz⟩;rw[XC,cq] at bz;obtain⟨a,c,rfl⟩:=cG bz;exact⟨a,_,c,rfl,⟨AI++Cp,⟨by rw[cu];exact ei bu bz,fun k e=>db.new (bz.lt k e).1⟩,(aI.move (dj.mP cz)).app (aZ.move (dj.mP cz))⟩,cz⟩
structure kU (w:World) (b6 bt:Option Addr) (cj lc aX bD:Nat) (gT:Int) (bQ:Nat) (W:World):Prop where
 ho:eB w W
 ce:W.heap[w.heap.size]?=some (.cells #[.slice b6 cj lc,.slice bt aX bD,q gT] 62 (0,0))
 rs:W.heap[w.heap.size+1]?=some (.cells #[.slice none 0 0,.slice none 0 0,q 0] 62 (0,0))
 dQ:W.heap[w.heap.size+2]?=some (.cells #[q (gT+1)] 3 (0,0))
 qi:W.heap[bQ]?=some (.cells #[q 1,q (gT+1),.string ⟨#[]⟩] 112 (0,0))
 XD:w.heap.size<=bQ
def jq(h:w.heap[k]?=some o):k<w.heap.size:=(br h).1
def Below.a8(h:eB W aU)(hk:W.heap[k]?=some o):aU.heap[k]?=some o:=(h.block k (jq hk)).trans hk
def kU.below(h:kU w b6 bt cj lc aX bD gT bQ W)(A:eB W aU):kU w b6 bt cj lc aX bD gT bQ aU:=⟨h.ho.trans (A.mono h.ho.size),Below.a8 A h.ce,Below.a8 A h.rs,Below.a8 A h.dQ,Below.a8 A h.qi,h.XD⟩
def kU.alloc{w:World}{b6 bt:Option Addr}{cj lc aX bD bQ:Nat}{gT:Int}{W:World}(h:kU w b6 bt cj lc aX bD gT bQ W)(o:Obj):kU w b6 bt cj lc aX bD gT bQ (W.alloc o):=h.below ((Below.refl _ _).alloc ap o)
def oL(x:Obj)(h:w.heap[k]?=some o):(w.alloc x).heap[k]?=some o:=Below.a8 ((Below.refl _ _).alloc ap x) h
def uI{a v:Nat}{ds:Array Value}{t bp:TypeId}(x:Value)(ak:w.heap[a]?=some (.cells cs t (0,0)))(hv:w.heap[v]?=some (.cells ds bp (0,0)))(ar:t≠bp):(w.setCell ⟨a,i,none⟩ x).heap[v]?=some (.cells ds bp (0,0)):=by
 have:v≠a:=by rintro rfl;rw[ak] at hv;injection hv with hv;injection hv with _ hv;exact ar hv
 exact(Below.heap_setCell _ _ _ v (show v≠a from this)).trans hv
def kU.set(h:kU w b6 bt cj lc aX bD gT bQ W){a:Nat}(ak:W.heap[a]?=some (.cells cs 115 (0,0)))(X:w.heap.size<=a)(x:Value):kU w b6 bt cj lc aX bD gT bQ (W.setCell ⟨a,i,none⟩ x):=⟨h.ho.setCell (p:=⟨a,i,none⟩) X x,uI x ak h.ce K,uI x ak h.rs K,uI x ak h.dQ K,uI x ak h.qi K,h.XD⟩
def Pt(gT:Int)(s:e6)(n:Int):Array Value:=#[q 1,q (gT+1),.string ⟨#[]⟩,q 2,q 0,.string s,q 1,q n,.string ⟨#[]⟩]
def qj(w:World)(b6 bt:Option Addr)(cj lc aX bD:Nat)(gT:Int)(bQ:Nat)(cU:e6)(time:Int)(W:World)(a ib:Nat):Prop:=kU w b6 bt cj lc aX bD gT bQ W/\W.heap[a]?=some (.cells #[q (gT+1),.slice (some ⟨ib,0,none⟩) 3 3] 115 (0,0))/\W.heap[ib]?=some (.cells (Pt gT cU time) 112 (0,0))/\w.heap.size<=a/\w.heap.size<=ib
def qj.yP{a:Nat}(h:kU w b6 bt cj lc aX bD gT bQ W)(ak:W.heap[a]?=some (.cells #[q 0,.slice none 0 0] 115 (0,0)))(hv:W.heap[ib]?=some (.cells (Pt gT cU time) 112 (0,0)))(Pu:w.heap.size<=a)(c9:w.heap.size<=ib):qj w b6 bt cj lc aX bD gT bQ cU time ((W.setCell ⟨a,0,none⟩ (q (gT+1))).setCell ⟨a,1,none⟩ (.slice (some ⟨ib,0,none⟩) 3 3)) a ib:=⟨(h.set ak Pu _).set (hc ak _) Pu _,hc (hc ak _) _,uI _ (hc ak _) (uI _ ak hv K) K,Pu,c9⟩
def qj.laid(h:kU w b6 bt cj lc aX bD gT bQ W)(hv:W.heap[ib]?=some (.cells (Pt gT cU time) 112 (0,0)))(c9:w.heap.size<=ib):qj w b6 bt cj lc aX bD gT bQ cU time (W.alloc (.cells #[q (gT+1),.slice (some ⟨ib,0,none⟩) 3 3] 115)) W.heap.size ib:=⟨h.alloc _,bH W _,oL _ hv,h.ho.size,c9⟩
def qj.below{w:World}{b6 bt:Option Addr}{cj lc aX bD bQ:Nat}{gT:Int}{cU:e6}{time:Int}{W aU:World}{a ib:Nat}(h:qj w b6 bt cj lc aX bD gT bQ cU time W a ib)(A:eB W aU):qj w b6 bt cj lc aX bD gT bQ cU time aU a ib:=⟨h.1.below A,Below.a8 A h.2.1,Below.a8 A h.2.2.1,h.2.2.2.1,h.2.2.2.2⟩
def oM(t:TypeId):Prop:=t=67\/t=83\/t=137\/t=130\/t=115\/t=112\/t=124
def oN(w:World)(k:Nat):Prop:=∃cs t m,w.heap[k]?=some (.cells cs t m)/\oM t
def jn.jW{t:TypeId}(h:jn F w b cs t)(au:oM t):jn (fun k=>F k/\oN w k) w b cs t:=⟨⟨h.1,_,_,_,h.2,au⟩,h.2⟩
def eg.jW(h:eg F w e size v n xs)(au:oM e):eg (fun k=>F k/\oN w k) w e size v n xs:=by
 refine⟨h.1,fun k hk=>⟨h.2 k hk,?_⟩⟩;obtain⟨⟨_,H⟩,_⟩:=h;rcases H with ar | ⟨g,af,ay,rfl,X,en,rest⟩
 ·rw[ar.1] at hk;cases hk
 ·have:g=k:=by simpa [Value.ownBlock] using hk
  subst this;exact⟨_,_,_,en,au⟩
def dk.jW{F:Nat->Prop}{w:World}:∀{rs:List (Nat×Value)} {l:je},dk F w rs l->dk (fun k=>F k/\oN w k) w rs l
 | [],[],_=>trivial
 | _::_,_::_,h=>⟨⟨h.1.1,h.1.2.jW (by simp[oM])⟩,h.2.jW⟩
 | [],_::_,h=>h.elim
 | _::_,[],h=>h.elim
def fB.jW{F:Nat->Prop}{w:World}{v:Value}{l:je}(h:fB F w v l):fB (fun k=>F k/\oN w k) w v l:=by obtain⟨rs,h1,H⟩:=h;exact⟨rs,h1.jW (by simp[oM]),H.jW⟩
def iW.jW{F:Nat->Prop}{w:World}{b:Nat}{t:bG}(h:iW F w b t):iW (fun k=>F k/\oN w k) w b t:=by obtain⟨fl,b0,rs,h1,H,ab,aK⟩:=h;exact⟨fl,b0,rs,h1.jW (by simp[oM]),H.jW (by simp[oM]),ab.jW (by simp[oM]),aK.jW⟩
def h2.jW{F:Nat->Prop}{w:World}{b:Nat}{ex:tT}{g:hG}(h:h2 F w b ex g):h2 (fun k=>F k/\oN w k) w b ex g:=by obtain⟨c,aE,bs,aw,h1,H,ab⟩:=h;have sub:∀i,dj (fun k=>eT F c i k/\oN w k) (eT (fun k=>F k/\oN w k) c i) w w:=fun i=>dj.to fun k _ hk=>⟨⟨hk.1.1,hk.2⟩,hk.1.2⟩;exact⟨c,aE,bs,aw,(h1.jW (by simp[oM])).move (sub 0),(H.jW (by simp[oM])).move (sub 0),fun i a b=>((ab i a b).jW).move (sub (i+1))⟩
def da.trans'{G:Nat->Prop}{a b c:World}(h:da F a b)(g:da G b c)(dh:∀k,k<a.heap.size->G k->F k):da F a c:=⟨g.os.trans h.os,g.tape.trans h.tape,g.output.trans h.output,bX h.size g.size,fun k hk ar=>(g.block k (e0 hk h.size) (fun x=>ar (dh k hk x))).trans (h.block k hk ar)⟩
structure ni where
 ck:hG
 ce:qh
 nj:List n9
 last:Nat
variable{s:ni}
def nH(F:Nat->Prop)(w:World)(b:Nat)(s:ni):Prop:=(∀k,F k->oN w k/\8<=k)/\∃(c:Nat->Nat) (b6 bt pa:Option Addr) (cj lc aX bD pn pc:Nat),h2 (eT F c 0) w b ⟨.slice b6 cj lc,.slice bt aX bD,q (s.ce.count:Int),.slice pa pn pc,q (s.last:Int)⟩ s.ck/\fB (eT F c 1) w (.slice b6 cj lc) s.ce.log/\fB (eT F c 1) w (.slice bt aX bD) s.ce.ng/\eg (eT F c 2) w 124 5 (.slice pa pn pc) s.nj.length (s.nj.flatMap xi)
def nH.fH(h:nH F w b s):∀k,F k->k<w.heap.size:=fun k hk=>by obtain⟨⟨cs,t,m,e,_⟩,_⟩:=h.1 k hk;exact jq e
def nH.aside{G:Nat->Prop}(h:nH F w b s)(av:da G w w')(bb:∀k,F k->¬G k):nH F w' b s:=by have m:dj F F w w':=fun k hk hF=>⟨hF,av.block k hk (bb k hF)⟩;obtain⟨aw,c,b6,bt,pa,cj,lc,aX,bD,pn,pc,h1,H,ab,aK⟩:=id h;refine⟨fun k hk=>?_,c,b6,bt,pa,cj,lc,aX,bD,pn,pc,h1.move (zM m c 0),H.move (zM m c 1),ab.move (zM m c 1),aK.move (zM m c 2)⟩;obtain⟨⟨cs,t,x,e,Es⟩,b5⟩:=aw k hk;exact⟨⟨cs,t,x,(m k (jq e) hk).2.trans e,Es⟩,b5⟩
def vE(F:Nat->Prop)(w:World)(b:Nat)(s:ni)(w':World):Prop:=∃F',nH F' w' b s/\(∀k,F' k->F k\/w.heap.size<=k)/\da F w w'
def nH.turn(aw:∀k,F k->oN w k/\8<=k)(b5:8<=w.heap.size){c:Nat->Nat}{pa:Option Addr}{pn pc:Nat}(hex:ex=⟨.slice b6 cj lc,.slice bt aX bD,q (s.ce.count:Int),.slice pa pn pc,q (s.last:Int)⟩)(H:fB (eT F c 1) w (.slice b6 cj lc) s.ce.log)(ab:fB (eT F c 1) w (.slice bt aX bD) s.ce.ng)(aK:eg (eT F c 2) w 124 5 (.slice pa pn pc) s.nj.length (s.nj.flatMap xi))(he:h2 (db (eT F c 0) w) w' b ex g)(hs:da (eT F c 0) w w'):vE F w b {s with ck:=g} w':=by
 subst hex;refine⟨fun k=>db F w k/\oN w' k,⟨fun k hk=>⟨hk.2,?_⟩,va c w 0,b6,bt,pa,cj,lc,aX,bD,pn,pc,?_,?_,?_,?_⟩,fun k hk=>?_,hs.mono (fun k _ hk=>hk.1)⟩
 ·rcases hk.1 with⟨_,h⟩ | h
  ·exact(aw k h).2
  ·omega
 ·exact(he.jW).move (dj.to fun k _ hk=>⟨⟨(zL hk.1).1,hk.2⟩,(zL hk.1).2⟩)
 ·exact((H.move (BN hs K)).jW).move (dj.to fun k _ hk=>⟨⟨hk.1.1,hk.2⟩,hk.1.2⟩)
 ·exact((ab.move (BN hs K)).jW).move (dj.to fun k _ hk=>⟨⟨hk.1.1,hk.2⟩,hk.1.2⟩)
 ·exact((aK.move (BN hs K)).jW (by simp[oM])).move (dj.to fun k _ hk=>⟨⟨hk.1.1,hk.2⟩,hk.1.2⟩)
 ·rcases hk.1 with⟨_,h⟩ | h
  ·exact .inl h
  ·exact .inr h
def ant(h:nH F w b s)(b5:8<=w.heap.size)(ok:hA N s.ck)(R:et w)(name bl:e6)(ar:name.size<=2000000)(ai:bl.size<=2000000):ey 13 #[M b,.string name,.string bl] w fun e w'=>e=.returned (q ((lL s.ck name bl).1:Int))/\vE F w b {s with ck:=(lL s.ck name bl).2} w':=by obtain⟨aw,c,b6,bt,pa,cj,lc,aX,bD,pn,pc,h1,H,ab,aK⟩:=h;refine(afa h1 ok R name bl ar ai).mono ?_;rintro e w' ⟨rfl,aI,aZ⟩;exact⟨rfl,nH.turn aw b5 rfl H ab aK aI aZ⟩
def anu(h:nH F w b s)(b5:8<=w.heap.size)(ok:hA N s.ck)(cS:N<=1000000000)(name:e6)(U af:Nat)(ba:e4)(hv:zG w U ba)(ae:U<w.heap.size)(X:ba.length<=2000000)(hs:∀t∈ba,t.size<=2000000):ey 14 #[M b,.string name,.slice (some ⟨U,0,none⟩) ba.length af] w fun e w'=>e=.returned (.tuple #[q ((mF s.ck name ba).1:Int),q ((mF s.ck name ba).2.1:Int)])/\vE F w b {s with ck:=(mF s.ck name ba).2.2} w':=by obtain⟨aw,c,b6,bt,pa,cj,lc,aX,bD,pn,pc,h1,H,ab,aK⟩:=h;refine(aeW h1 ok cS name U af ba hv ae X hs).mono ?_;rintro e w' ⟨rfl,aI,aZ⟩;exact⟨rfl,nH.turn aw b5 rfl H ab aK aI aZ⟩
def anv(h:nH F w b s)(b5:8<=w.heap.size)(ok:hA N s.ck)(name:e6)(m:Int):ey 15 #[M b,.string name,q m] w fun e w'=>e=.returned (q ((pz s.ck name m).1:Int))/\vE F w b {s with ck:=(pz s.ck name m).2} w':=by obtain⟨aw,c,b6,bt,pa,cj,lc,aX,bD,pn,pc,h1,H,ab,aK⟩:=h;refine(aeX h1 ok name m).mono ?_;rintro e w' ⟨rfl,aI,aZ⟩;exact⟨rfl,nH.turn aw b5 rfl H ab aK aI aZ⟩
def Js:ni:=⟨Eb,⟨[],[],0⟩,[],0⟩
def anw(w:World)(b5:8<=w.heap.size):ey 12 #[] w fun e w'=>∃k F,e=.returned (M k)/\nH F w' k Js/\(∀U,F U->w.heap.size<=U)/\eB w w':=by refine(aeZ w).mono ?_;rintro e w' ⟨k,hk,rfl,he,A⟩;refine⟨k,fun U=>w.heap.size<=U/\oN w' U,rfl,⟨fun U ae=>⟨ae.2,bX b5 ae.1⟩,fun _=>0,none,none,none,0,0,0,0,0,0,?_,⟨[],⟨World.ownsRow_nil _ _ _ _,fun k e=>by cases e⟩,trivial⟩,⟨[],⟨World.ownsRow_nil _ _ _ _,fun k e=>by cases e⟩,trivial⟩,⟨World.ownsRow_nil _ _ _ _,fun k e=>by cases e⟩⟩,fun U ae=>ae.1,A⟩;exact(he.jW).move (dj.to fun U _ ae=>⟨ae,rfl⟩)
structure Ground (w:World):Prop where
 uJ:et w
 vC:kQ w
def Ground.kept{w w':World}(h:Ground w)(hs:w.heap.size<=w'.heap.size)(A:∀k,k<8->w'.heap[k]?=w.heap[k]?):Ground w':=⟨h.uJ.kept hs A,h.vC.a8 (A _ K)⟩
def Ground.anx(h:Ground w)(av:da F w w')(au:∀k,F k->8<=k):Ground w':=h.kept av.size fun k hk=>av.block k (e0 hk h.uJ.js) (fun x=>by have:=au k x;omega)
def Ground.below(h:Ground w)(A:eB w w'):Ground w':=h.kept A.size fun k hk=>A.block k (e0 hk h.uJ.js)
def Pv(ls:List (List fo)):(hj ls).length<=ls.flatten.length:=by unfold hj p7;refine bX (Po _ _) ?_;rw[(sS hf ls.flatten).length_eq];exact ap
def XE{α:Type}:∀(l:List (List α)),l.flatten.length=(l.map List.length).sum
 | []=>rfl
 | a::C=>by rw[List.flatten_cons,cu,List.map_cons,List.sum_cons,XE C]
def XF(V:lh)(ab:V.length<=3):∀(l:List (List al×List (je))),((l.map (lG V)).map (fun a=>a.2.length)).sum<=3*r2 l
 | []=>bu
 | x::C=>by
  rw[List.map_cons,List.map_cons,List.sum_cons,r2];have aH:=XF V ab C;have h1:(lG V x).2.length<=V.length*x.2.length:=by unfold lG;refine bX (Pv _) ?_;rw[List.flatten_cons,List.flatten_nil,List.append_nil,CG];exact ap
  have H:V.length*x.2.length<=3*x.2.length:=Nat.mul_le_mul_right _ ab;omega
def XG{bd:List bG}(bi:nW bd)(dA : -1000000000000<=O)(er:O<=1000000000000){e g:aL}(R:aJ (.query e V wh g hv) 2)(cv:mr (.query e V wh g hv))(ab:V.length<=3)(h:oK bd O V (.query e V wh g hv)=some out):out.length<=20001/\(out.map (·.2)).flatten.length<=60000/\(hj (out.map (·.2))).length<=60000:=by
 obtain⟨_,cO⟩:=Pm bi dA er R cv [] (E:=[]) (st:=nG) (m:=0) (by trivial) ⟨bu,fun _=>bu⟩;have cE:=amN bi dA er R cv [] (E:=[]) (st:=nG) (m:=0) (by trivial) ⟨bu,fun _=>bu⟩;unfold oK at h;split at h
 ·cases h
 obtain rfl:=bx h;generalize (bR bd O (.query e V wh g hv) [] nG).2.1=i1 at cO cE;have av:(((kM pg (i1.map (lG V))).map nF).map (·.2)).flatten.length<=60000:=by rw[XE,List.map_map,List.map_map];have aj:=((sS pg (i1.map (lG V))).map (fun a:h8=>a.2.length)).sum_nat;have ae:((List.length ∘ (fun x:l7=>x.2)) ∘ nF)=fun a:h8=>a.2.length:=rfl;rw[ae,aj];have:=XF V ab i1;omega
 refine⟨?_,av,bX (Pv _) av⟩;rw[cZ,(sS _ _).length_eq,cZ];exact cO
structure XH where
 qk:Nat
 Jt:Nat
 out:List l7
 FX:ni
def eM:aL->lh
 | .query _ s _ _ _=>s
 | _=>[]
def gE(f:qh->n9->Bool)(s:ni)(cU eH:e6):XH:=if cU.data.toList=[]\/jf cU.data.toList=false then ⟨9,0,[],s⟩ else if hN (pq s.ck.bY) eH≠0 then ⟨hN (pq s.ck.bY) eH,0,[],s⟩ else match hC eH with
 | none=>⟨0,0,[],s⟩
 | some x=>match oK s.ck.bY s.ck.dS (eM x.2) x.2 with
  | none=>⟨6,0,[],s⟩
  | some out=>if 60<=s.ce.count then ⟨7,0,[],s⟩ else if oa (f (nh cU s.ck.dS (hj (out.map (·.2))) s.ce)) s.nj≠0 then ⟨10,oa (f (nh cU s.ck.dS (hj (out.map (·.2))) s.ce)) s.nj,[],s⟩ else ⟨0,0,out,{s with ce:=nh cU s.ck.dS (hj (out.map (·.2))) s.ce}⟩
structure jC (w:World) (b:Nat) (cs:Array Value) (W:World):Prop where
 ho:eB w W
 bQ:W.heap[b]?=some (.cells cs 67 (0,0))
 up:W.heap[w.heap.size]?=some (.cells #[.slice none 0 0,q 0] 30 (0,0))
def jC.below(h:jC w b cs W)(A:eB W aU):jC w b cs aU:=⟨h.ho.trans (A.mono h.ho.size),Below.a8 A h.bQ,Below.a8 A h.up⟩
def fB.inside(h:fB F w v l):fB (fun k=>k<w.heap.size) w v l:=h.jW.wide (fun k hk=>by
 obtain⟨_,cs,t,m,e,_⟩:=hk;exact jq e)
def p3.inside{l:List bG}(h:p3 F w aE l):p3 (fun k=>k<w.heap.size) w aE l:=by
 obtain⟨bs,h1,H,ab,aK⟩:=h;have lt:∀(G:Nat->Prop) (k:Nat),(G k/\oN w k)->k<w.heap.size:=fun G k hk=>by obtain⟨_,cs,t,m,e,_⟩:=hk;exact jq e
 exact⟨bs,h1,(H.jW (by simp[oM])).move (dj.to fun k _ hk=>lt _ k hk),ab,fun i a b=>((aK i a b).jW).move (dj.to fun k _ hk=>lt _ k hk)⟩
def h2.anz{x y z aq e:Value}(h:h2 F w b ⟨x,y,z,aq,e⟩ g)(j1 yQ CO:Value):h2 F (((w.setCell ⟨b,1,none⟩ j1).setCell ⟨b,2,none⟩ yQ).setCell ⟨b,3,none⟩ CO) b ⟨j1,yQ,CO,aq,e⟩ g/\da (fun k=>k=b) w (((w.setCell ⟨b,1,none⟩ j1).setCell ⟨b,2,none⟩ yQ).setCell ⟨b,3,none⟩ CO):=by
 obtain⟨c,aE,bs,aw,h1,H,ab⟩:=h;have s1:da (fun k=>k=b) w (w.setCell ⟨b,1,none⟩ j1):=da.set b 1 _ rfl;have s2:da (fun k=>k=b) (w.setCell ⟨b,1,none⟩ j1) ((w.setCell ⟨b,1,none⟩ j1).setCell ⟨b,2,none⟩ yQ):=da.set b 2 _ rfl;have dd:da (fun k=>k=b) ((w.setCell ⟨b,1,none⟩ j1).setCell ⟨b,2,none⟩ yQ) (((w.setCell ⟨b,1,none⟩ j1).setCell ⟨b,2,none⟩ yQ).setCell ⟨b,3,none⟩ CO):=da.set b 3 _ rfl;have c4:da (fun k=>k=b) w (((w.setCell ⟨b,1,none⟩ j1).setCell ⟨b,2,none⟩ yQ).setCell ⟨b,3,none⟩ CO):=⟨dd.os.trans (s2.os.trans s1.os),dd.tape.trans (s2.tape.trans s1.tape),dd.output.trans (s2.output.trans s1.output),bX s1.size (bX s2.size dd.size),fun k hk ar=>by
  rw[dd.block k (e0 hk (bX s1.size s2.size)) ar,s2.block k (e0 hk s1.size) ar,s1.block k hk ar]⟩
 have cy:∀k,(∃cs t m,w.heap[k]?=some (.cells cs t m)/\t≠67)->k≠b:=by rintro k ⟨cs,t,m,e,au⟩ rfl;rw[h1.2] at e;injection e with e;injection e with _ e;exact au e.symm
 refine⟨⟨c,aE,bs,aw,((h1.set 1 j1).set 2 yQ).set 3 CO,?_,fun i a kH=>?_⟩,c4⟩
 ·refine H.a8 (fun k cs _ e hk hF=>⟨hF,c4.block k hk (cy k ⟨cs,_,_,e,K⟩)⟩)
 ·refine(ab i a kH).move (fun k hk hF=>⟨hF,c4.block k hk ?_⟩);rintro rfl;have:=h1.1.2;have:=hF.2;omega
def anA:(prog.info? 115).map (fun i=>(i.zero,i.size,i.bytes))=some (some (.agg #[q 0,.slice none 0 0]),2,32):=ax
def XI{l:List fo}(h:w.ownsRow lo 40 2 (.slice a n c) l.length (l.flatMap dX))(i:Nat)(hi:i<l.length):∃g,a=some ⟨g,0,none⟩/\g<w.heap.size/\dp w g (i*2)=some (.string l[i].1)/\dp w g (i*2+1)=some (q l[i].2):=by
 obtain⟨nB,e7,e⟩:=cG h;injection e with Y am bm;subst Y am bm;obtain⟨g,e,R⟩:=vA h r;subst e;letI:Inhabited fo:=⟨l[i]⟩
 have aw:=sP dX 2 K (fun _=>rfl) l (i*2) r;have h1:=sP dX 2 K (fun _=>rfl) l (i*2+1) r;rw[show i*2/2=i by omega,show i*2%2=0 by omega,getElem!_pos l i hi] at aw;rw[show(i*2+1)/2=i by omega,show(i*2+1)%2=1 by omega,getElem!_pos l i hi] at h1;have bk:=h.cells rfl _ _ aw;have c1:=h.cells rfl _ _ h1;rw[Addr.add_lit,ax1] at bk c1;exact⟨g,rfl,R,bk,c1⟩
def anB(w:World)(a b c:Obj):Below w.heap.size w (((w.alloc a).alloc b).alloc c).drew:=by have h:=(((Below.refl w.heap.size w).alloc ap a).alloc (by rw[cc];omega) b).alloc (by rw[cc,cc];omega) c;exact⟨h.os,h.tape,h.output,h.size,h.block⟩
def FY(b aB z:Nat):Prop:=¬b=z/\¬z=b/\¬b=z+1/\¬z+1=b/\¬b=z+1+1/\¬z+1+1=b/\¬aB=z/\¬z=aB/\¬aB=z+1/\¬z+1=aB/\¬aB=z+1+1/\¬z+1+1=aB/\¬b+1+1=z/\¬z=b+1+1/\¬b+1+1=z+1/\¬z+1=b+1+1/\¬b+1+1=z+1+1/\¬z+1+1=b+1+1/\¬b=z+2/\¬z+2=b/\¬aB=z+2/\¬z+2=aB/\¬b+1+1=z+2/\¬z+2=b+1+1
def AO(n:Nat)(t:fo):Nat×List al:=(n+1,[iX ((n+1:Nat):Int),CN t.1,iX t.2])
def FZ(bQ:Nat)(n:Int)(W w':World):Prop:=(dp w' bQ 0=some (q 1)/\dp w' bQ 1=some (q n)/\dp w' bQ 2=some (.string ⟨#[]⟩))/\(¬bQ=w'.heap.size/\¬w'.heap.size=bQ/\¬bQ=w'.heap.size+1/\¬w'.heap.size+1=bQ)/\(∀aB,aB<W.heap.size->aB<w'.heap.size/\aB<=w'.heap.size/\aB<=w'.heap.size+1/\¬aB=w'.heap.size/\¬w'.heap.size=aB/\¬aB=w'.heap.size+1/\¬w'.heap.size+1=aB)/\(∀aB i,aB<W.heap.size->dp w' aB i=dp W aB i)/\∀aB i,aB<W.heap.size->w'.frozen? ⟨aB,i,none⟩=W.frozen? ⟨aB,i,none⟩
def l8(h:k=w.heap.size):(w.alloc o).heap[k]?=some o:=by subst h;exact bH w o
def CP{dB:World}(h:Below dB.heap.size dB w'):(∀aB i,aB<dB.heap.size->dp w' aB i=dp dB aB i)/\∀aB i,aB<dB.heap.size->w'.frozen? ⟨aB,i,none⟩=dB.frozen? ⟨aB,i,none⟩:=⟨fun aB i cr=>h.cell (p:=⟨aB,i,none⟩) cr,fun aB i cr=>Xt (h.block aB cr)⟩
def Below.CQ(h:Below (w.alloc o).heap.size (w.alloc o) w'):Below w.heap.size w w':=((Below.refl _ _).alloc ap o).trans (h.mono (by rw[cc];omega))
def Below.fK{a b c:World}(h:Below a.heap.size a b)(g:Below b.heap.size b c):Below a.heap.size a c:=h.trans (g.mono h.size)
def anC(b6 bt:Option Addr)(cj lc aX bD lo:Nat)(cU:e6)(time:Int)(XJ:Value)(ts:List fo)(j:qh)(w:World)(h1:fB F w (.slice b6 cj lc) j.log)(H:fB F w (.slice bt aX bD) j.ng)(kz:j.log.length<=10000)(nu:j.ng.length<=800000)(ai:j.count<=1000000)(hu:cU.size<=1000000)(au:w.ownsRow lo 40 2 XJ ts.length (ts.flatMap dX))(tU:ts.length<=100000):ey 22 #[.agg #[.slice b6 cj lc,.slice bt aX bD,q (j.count:Int)],.string cU,q time,XJ] w fun e w'=>∃a n c a2 b9 c2,e=.returned (.agg #[.slice a n c,.slice a2 b9 c2,q ((j.count+1:Nat):Int)])/\fB (db F w) w' (.slice a n c) (nh cU time ts j).log/\fB (db F w) w' (.slice a2 b9 c2) (nh cU time ts j).ng/\Below w.heap.size w w':=by
 obtain⟨uK,vF,rfl⟩:=cG au;have yz:=u h1;have XK:=u H;have wL:=u au;have fk:=u (And.intro kz (And.intro nu tU));have atn:=u ai;have uj:IntKind.i64.wrap ((j.count:Int)+1)=(j.count:Int)+1:=mC;have sW:=u hu;clear h1 H au kz nu ai hu tU;generalize LD:(j.count:Int)=eE at *;have lg:=u LD;clear LD;go_enter func22,ntmps22;go_upto_region 4 with(go_at_call 45;refine(tg _ _).mono ?_;rintro e J ⟨rfl,bJ⟩);have iv:kU w b6 bt cj lc aX bD eE J.heap.size (J.alloc (.cells #[q 1,q (eE+1),.string ⟨#[]⟩] 112)):=by
  have qc:=(((Below.refl w.heap.size w).alloc ap (.cells #[.slice b6 cj lc,.slice bt aX bD,q eE] 62)).alloc (by rw[cc];omega) (.cells #[.slice none 0 0,.slice none 0 0,q 0] 62)).alloc (by rw[cc,cc];omega) (.cells #[q (eE+1)] 3);refine⟨(qc.trans (bJ.mono qc.size)).alloc (bX qc.size bJ.size) _,oL _ (Below.a8 bJ (oL _ (oL _ (bH w _)))),oL _ (Below.a8 bJ (oL _ ?_)),oL _ (Below.a8 bJ ?_),bH J _,bX qc.size bJ.size⟩
  ·have:=bH (w.alloc (.cells #[.slice b6 cj lc,.slice bt aX bD,q eE] 62)) (.cells #[.slice none 0 0,.slice none 0 0,q 0] 62);rwa [cc] at this
  ·have:=bH ((w.alloc (.cells #[.slice b6 cj lc,.slice bt aX bD,q eE] 62)).alloc (.cells #[.slice none 0 0,.slice none 0 0,q 0] 62)) (.cells #[q (eE+1)] 3);rwa [cc,cc] at this
 clear bJ;generalize J.alloc (.cells #[q 1,q (eE+1),.string ⟨#[]⟩] 112)=lU at *;generalize J.heap.size=bQ at *;have F0:Hid (∀W w',kU w b6 bt cj lc aX bD eE bQ W->Below W.heap.size W w'->FZ bQ (eE+1) W w'/\Hid (Below W.heap.size W w'/\kU w b6 bt cj lc aX bD eE bQ w')):=u (fun W w' h A=>by
  have H:=h.below A;have X:=jq H.qi;exact⟨⟨⟨Z H.qi (i:=0) rfl,Z H.qi (i:=1) rfl,Z H.qi (i:=2) rfl⟩,⟨r,r,r,r⟩,fun aB cr=>by have:=A.size;exact⟨r,r,r,r,r,r,r⟩,fun aB i cr=>A.cell (p:=⟨aB,i,none⟩) cr,fun aB i cr=>Xt (A.block aB cr)⟩,u ⟨A,H⟩⟩)
 have uu:Hid (∀W,kU w b6 bt cj lc aX bD eE bQ W->ey 48 #[.string cU] W fun e w'=>e=.returned (.string cU)/\FZ bQ (eE+1) W w'/\Hid (Below W.heap.size W w'/\kU w b6 bt cj lc aX bD eE bQ w')):=u (fun W h=>(Kr cU W (bX sW.d K)).mono (fun e w' U=>⟨U.1,F0.d W w' h U.2⟩));have AL:Hid (∀W s,kU w b6 bt cj lc aX bD eE bQ W->ey 47 #[.string s] W fun e w'=>e=.returned (.agg #[q 2,q 0,.string s])/\FZ bQ (eE+1) W w'/\Hid (Below W.heap.size W w'/\kU w b6 bt cj lc aX bD eE bQ w')):=u (fun W s h=>(Ki s W).mono (fun e w' U=>⟨U.1,F0.d W w' h U.2⟩))
 have CD:Hid (∀W n,kU w b6 bt cj lc aX bD eE bQ W->ey 45 #[q n] W fun e w'=>e=.returned (.agg #[q 1,q n,.string ⟨#[]⟩])/\FZ bQ (eE+1) W w'/\Hid (Below W.heap.size W w'/\kU w b6 bt cj lc aX bD eE bQ w')):=u (fun W n h=>(tg n W).mono (fun e w' U=>⟨U.1,F0.d W w' h U.2⟩));have oI:Hid (∀W k,kU w b6 bt cj lc aX bD eE bQ W->ey 46 #[.slice (some ⟨k,0,none⟩) 3 3,.pointer (some ⟨w.heap.size+1+1,0,none⟩)] W fun e w'=>e=.returned (.agg #[q (eE+1),.slice (some ⟨k,0,none⟩) 3 3])/\FZ bQ (eE+1) W w'/\Hid (Below W.heap.size W w'/\kU w b6 bt cj lc aX bD eE bQ w')):=u (fun W k h=>(Xx (eE+1) (w.heap.size+1+1) (some ⟨k,0,none⟩) 3 3 W (Z h.dQ (i:=0) rfl) (jq h.dQ)).mono (fun e w' U=>⟨U.1,F0.d W w' h U.2⟩))
 have Cn:Hid (kU w b6 bt cj lc aX bD eE bQ lU.drew):=u (iv.below ⟨rfl,rfl,rfl,ap,fun _ _=>rfl⟩);obtain⟨z0,b3,z2⟩:dp lU bQ 0=some (q 1)/\dp lU bQ 1=some (q (eE+1))/\dp lU bQ 2=some (.string ⟨#[]⟩):=⟨Z iv.qi (i:=0) rfl,Z iv.qi (i:=1) rfl,Z iv.qi (i:=2) rfl⟩;obtain⟨ji,bM⟩:¬bQ=lU.heap.size/\¬lU.heap.size=bQ:=by have:=jq iv.qi;exact⟨r,r⟩
 have l9:=u iv;clear iv;go_cut [12] (fun F1 wc=>∃aB ib,F1=M aB/\Hid (qj w b6 bt cj lc aX bD eE bQ cU time wc aB ib));case first=>
  go_region_held3 (fun w'=>w'.cell? ⟨bQ,0,none⟩=some (q 1)/\w'.cell? ⟨bQ,1,none⟩=some (q (eE+1))/\w'.cell? ⟨bQ,2,none⟩=some (.string ⟨#[]⟩)) (go_keep) (first
   | (go_at_call 46;refine(oI.d _ _ (by first | exact oO.d.2.alloc _ | exact(oO.d.2.alloc _).alloc _)).mono ?_;rintro e bh ⟨rfl,⟨⟨anD,anE,anF⟩,⟨anG,anH,Gx,anI⟩,anJ,anK,anL⟩,pr⟩;have F2:Below aA.heap.size aA bh:=(by first | exact Below.CQ pr.d.1 | exact Below.CQ (Below.CQ pr.d.1));have F3:Below S.heap.size S bh:=Below.fK (by first | exact oO.d.1 | exact Below.CQ oO.d.1) F2;have Ju:Below J.heap.size J bh:=Below.fK (by first | exact kh.d.1 | exact Below.CQ kh.d.1) F3;obtain⟨c1,f1⟩:=CP (Below.fK jd.d.1 Ju);obtain⟨c2,f2⟩:=CP (Below.fK kh.d.1 F3);obtain⟨dZ,f3⟩:=CP (Below.fK oO.d.1 F2);replace Ju:=u Ju;replace F3:=u F3;replace F2:=u F2)
   | (go_at_call 45;refine(CD.d _ _ (by first | exact kh.d.2 | exact kh.d.2.alloc _)).mono ?_;rintro e aA ⟨rfl,⟨⟨anM,anN,anO⟩,⟨anP,anQ,anR,anS⟩,anT,anU,anV⟩,oO⟩)
   | (go_at_call 47;refine(AL.d _ _ (by first | exact jd.d.2 | exact jd.d.2.alloc _)).mono ?_;rintro e S ⟨rfl,⟨⟨anW,anX,anY⟩,⟨anZ,an0,an1,an2⟩,an3,an4,an5⟩,kh⟩)
   | (go_at_call 48;refine(uu.d _ (by first | exact Cn.d | exact Cn.d.alloc _)).mono ?_;rintro e J ⟨rfl,⟨⟨y0,y1,y2⟩,⟨y3,an6,an7,an8⟩,an9,aoa,aob⟩,jd⟩))
  all_goals
   have aoc:Hid (w.heap.size<=lU.heap.size/\w.heap.size<=J.heap.size/\w.heap.size<=S.heap.size/\w.heap.size<=aA.heap.size):=u ⟨l9.d.ho.size,jd.d.2.ho.size,kh.d.2.ho.size,oO.d.2.ho.size⟩;clear y0 y1 y2 y3 an6 an9 aoa aob an7 an8 anW anX anY anZ an0 an3 an4 an5 an1 an2 anM anN anO anP anQ anT anU anV anR anS anD anE anF anG anH anJ anK anL Gx anI c1 c2 dZ f1 f2 f3 z0 b3 z2 ji bM;go_wp2_with fail;go_meet;case rel=>
    obtain⟨eR,l1,bT,xT⟩:=aoc.d;first
     | exact⟨_,_,rfl,u (qj.laid pr.d.2 (Below.a8 pr.d.1 (l8 rfl)) xT)⟩
     | exact⟨_,_,rfl,u (qj.yP pr.d.2 (Below.a8 pr.d.1 (l8 (by simp))) (Below.a8 pr.d.1 (oL _ (l8 rfl))) r r)⟩
     | exact⟨_,_,rfl,u (qj.yP pr.d.2 (Below.a8 pr.d.1 (oL _ (l8 rfl))) (Below.a8 pr.d.1 (l8 (by simp))) r r)⟩
     | exact⟨_,_,rfl,u (qj.yP pr.d.2 (Below.a8 (Below.fK oO.d.1 F2.d) (l8 rfl)) (Below.a8 pr.d.1 (l8 rfl)) r r)⟩
     | exact⟨_,_,rfl,u (qj.yP pr.d.2 (Below.a8 (Below.fK kh.d.1 F3.d) (l8 rfl)) (Below.a8 pr.d.1 (l8 rfl)) r r)⟩
     | exact⟨_,_,rfl,u (qj.yP pr.d.2 (Below.a8 (Below.fK jd.d.1 Ju.d) (l8 rfl)) (Below.a8 pr.d.1 (l8 rfl)) r r)⟩
 case rest=>
  obtain⟨aB,ib,rfl,Pw⟩:=hcut;clear uu Cn z0 b3 z2 ji bM l9 AL CD oI F0;obtain⟨ob,rfl⟩:∃x,x=wc:=⟨_,rfl⟩;have yR:=Pw;have qt:=Pw.d;have fN:Below w.heap.size w ob:=qt.1.ho;have kO:=u fN;have Jv:Hid (∀W,Below w.heap.size w W->∀i (hi:i<ts.length),∃g,uK=some ⟨g,0,none⟩/\g<w.heap.size/\dp W g (i*2)=some (.string ts[i].1)/\dp W g (i*2+1)=some (q ts[i].2)):=u (fun W A i hi=>by
   obtain⟨g,eX,R,bk,c1⟩:=XI wL.d i hi;exact⟨g,eX,R,(A.cell (p:=⟨g,i*2,none⟩) R).trans bk,(A.cell (p:=⟨g,i*2+1,none⟩) R).trans c1⟩)
  have tU:ts.length<=100000:=fk.d.2.2;clear fN qt Pw;go_upto_region 7 with fail;go_loopg [13,15,33] (ts.length+1) (fun U aE co i wr=>∃(ii:Nat) (rs:List (Nat×Value)),ii<=ts.length/\i=q (ii:Int)/\Hid (wr.ownsRow ob.heap.size 115 2 aE ii (cQ rs))/\Hid (dk (fun k=>ob.heap.size<=k) wr rs ((ts.take ii).map (AO j.count)))/\Hid (Below ob.heap.size ob wr)/\ts.length-ii<U);case atStart=>exact⟨0,[],bu,rfl,u (World.ownsRow_nil _ _ _ _),u trivial,u (Below.refl _ _),r⟩
  case round=>
   obtain⟨ii,rs,aS,rfl,an,Cw,bc,ae⟩:=hrel;by_cases aD:ii<ts.length
   ·have cL:(ii:Int)<(ts.length:Int):=r;obtain⟨g,rfl,R,bk,c1⟩:=Jv.d wr (Below.fK kO.d bc.d) ii aD;have vt:IntKind.i64.wrap ((ii:Int)+1)=(ii:Int)+1:=mC;have wU:¬g=wr.heap.size:=by have:=kO.d.size;have:=bc.d.size;omega
    have mo:Hid ((ts.take (ii+1)).map (AO j.count)=(ts.take ii).map (AO j.count)++[AO j.count ts[ii]]):=u (by rw[jD aD,List.map_append];rfl);obtain⟨dc,de,AM⟩:=cG an.d;subst AM;have ch:=u ae;have sz:=u aD;clear ae;generalize ts[ii]=T at *;obtain⟨kt,kV⟩:=T;simp only[] at bk c1;clear aD;have dF:Below wr.heap.size wr (wr.alloc (.cells #[.string kt,q kV] 40)):=cT;have aO:=bH wr (.cells #[.string kt,q kV] 40);go_upto_region 9 with fail;generalize wr.alloc (.cells #[.string kt,q kV] 40)=mz at *;generalize XL:wr.heap.size=qY at *;have Jw:=u XL;clear XL bk c1 wU;have Px:Hid (Below w.heap.size w mz/\Below ob.heap.size ob mz):=u ⟨Below.fK (Below.fK kO.d bc.d) (by rw[Jw.d];exact dF),Below.fK bc.d (by rw[Jw.d];exact dF)⟩
    have FJ:Hid (∀W,Below mz.heap.size mz W->kU w b6 bt cj lc aX bD eE bQ W/\dp W qY 0=some (.string kt)/\dp W qY 1=some (q kV)):=u (fun W A=>⟨(yR.d.1.below Px.d.2).below A,Z (Below.a8 A aO) (i:=0) rfl,Z (Below.a8 A aO) (i:=1) rfl⟩);have Jx:Hid (∀w',Below mz.heap.size mz w'->(dp w' bQ 0=some (q 1)/\dp w' bQ 1=some (q (eE+1))/\dp w' bQ 2=some (.string ⟨#[]⟩)/\dp w' qY 0=some (.string kt)/\dp w' qY 1=some (q kV))):=u (fun w' A=>by
     obtain⟨q1,bN,fR⟩:=FJ.d w' A;exact⟨Z q1.qi (i:=0) rfl,Z q1.qi (i:=1) rfl,Z q1.qi (i:=2) rfl,bN,fR⟩)
    have AL:Hid (∀W,Below mz.heap.size mz W->ey 47 #[.string kt] W fun e w'=>e=.returned (.agg #[q 2,q 0,.string kt])/\(dp w' bQ 0=some (q 1)/\dp w' bQ 1=some (q (eE+1))/\dp w' bQ 2=some (.string ⟨#[]⟩)/\dp w' qY 0=some (.string kt)/\dp w' qY 1=some (q kV))/\Hid (Below mz.heap.size mz w')):=u (fun W h=>(Ki kt W).mono (fun e w' U=>⟨U.1,Jx.d w' (Below.fK h U.2),u (Below.fK h U.2)⟩));have CD:Hid (∀W,Below mz.heap.size mz W->ey 45 #[q kV] W fun e w'=>e=.returned (.agg #[q 1,q kV,.string ⟨#[]⟩])/\(dp w' bQ 0=some (q 1)/\dp w' bQ 1=some (q (eE+1))/\dp w' bQ 2=some (.string ⟨#[]⟩)/\dp w' qY 0=some (.string kt)/\dp w' qY 1=some (q kV))/\Hid (Below mz.heap.size mz w')):=u (fun W h=>(tg kV W).mono (fun e w' U=>⟨U.1,Jx.d w' (Below.fK h U.2),u (Below.fK h U.2)⟩))
    have oI:Hid (∀W,Below mz.heap.size mz W->ey 46 #[.slice (some ⟨W.heap.size,0,none⟩) 3 3,.pointer (some ⟨w.heap.size+1+1,0,none⟩)] (W.alloc (.cells #[q 1,q (eE+1),.string ⟨#[]⟩,q 2,q 0,.string kt,q 1,q kV,.string ⟨#[]⟩] 112)) fun e w'=>e=.returned (.agg #[q (eE+1),.slice (some ⟨W.heap.size,0,none⟩) 3 3])/\(dp w' bQ 0=some (q 1)/\dp w' bQ 1=some (q (eE+1))/\dp w' bQ 2=some (.string ⟨#[]⟩)/\dp w' qY 0=some (.string kt)/\dp w' qY 1=some (q kV))/\∃aC bA cw,(∀ty,(Builtin.append_ #[60,60] ty #[.slice dc ii de,.slice (some ⟨w'.heap.size,0,none⟩) 1 1]).run prog (w'.alloc (.cells #[q (eE+1),.slice (some ⟨W.heap.size,0,none⟩) 3 3] 115))=.ok (.slice aC (ii+1) bA) cw)/\(dp cw bQ 0=some (q 1)/\dp cw bQ 1=some (q (eE+1))/\dp cw bQ 2=some (.string ⟨#[]⟩)/\dp cw qY 0=some (.string kt)/\dp cw qY 1=some (q kV))/\(¬bQ=w'.heap.size/\¬qY=w'.heap.size/\¬w'.heap.size=bQ/\¬w'.heap.size=qY)/\Hid (Below ob.heap.size ob cw/\cw.ownsRow ob.heap.size 115 2 (.slice aC (ii+1) bA) (ii+1) (cQ (rs++[(j.count+1,.slice (some ⟨W.heap.size,0,none⟩) 3 3)]))/\dk (fun k=>ob.heap.size<=k) cw (rs++[(j.count+1,.slice (some ⟨W.heap.size,0,none⟩) 3 3)]) ((ts.take (ii+1)).map (AO j.count)))):=u (fun W XM=>by
     have dI:=(Below.refl W.heap.size W).alloc ap (.cells #[q 1,q (eE+1),.string ⟨#[]⟩,q 2,q 0,.string kt,q 1,q kV,.string ⟨#[]⟩] 112);have aod:=bH W (.cells #[q 1,q (eE+1),.string ⟨#[]⟩,q 2,q 0,.string kt,q 1,q kV,.string ⟨#[]⟩] 112);have XN:=Below.fK XM dI;have Fj:=(FJ.d _ XN).1;refine(Xx (eE+1) (w.heap.size+1+1) (some ⟨W.heap.size,0,none⟩) 3 3 _ (Z Fj.dQ (i:=0) rfl) (jq Fj.dQ)).mono ?_;rintro e w' ⟨rfl,A⟩;have bg:=Below.fK XN A;have XO:=Below.a8 A aod;have mV:Below ob.heap.size ob w':=Below.fK Px.d.2 bg;have jA:w'.ownsRow ob.heap.size 115 2 (.slice dc ii de) ii (cQ rs):=ee (ee an.d (by rw[<-Jw.d] at dF;exact dF)) bg
     have Cm:dk (fun k=>ob.heap.size<=k) w' rs ((ts.take ii).map (AO j.count)):=(Cw.d.move (fun k hk av=>⟨av,(by rw[Jw.d] at hk;exact dF.block k hk)⟩)).move (fun k hk av=>⟨av,bg.block k hk⟩);obtain⟨cF,cw,AN,Cr,rt,ato⟩:=ug underlying60 anA rfl K K jA #[q (eE+1),.slice (some ⟨W.heap.size,0,none⟩) 3 3] rfl (by simp[Value.oneCell']) r mV.size;obtain⟨aC,bA,rfl⟩:=cG Cr;have wx:=(Below.refl w'.heap.size w').alloc ap (.cells #[q (eE+1),.slice (some ⟨W.heap.size,0,none⟩) 3 3] 115);have fs:∀k,(Value.slice dc ii de).ownBlock=some k->ob.heap.size<=k:=fun k e=>(jA.lt k e).1;have cE:Below ob.heap.size ob cw:=(Below.fK mV wx).grown rt (bX mV.size wx.size) fs
     have XP:∀(k:Nat) (cs:Array Value),w'.heap[k]?=some (.cells cs 112 (0,0))->cw.heap[k]?=w'.heap[k]?:=fun k cs hk=>by have jl:=jq hk;rw[rt.block k (by rw[cc];omega) (fun e=>sD jA hk K e.symm),wx.block k jl]
     have XQ:∀(k:Nat) (cs:Array Value) (ty:TypeId),w'.heap[k]?=some (.cells cs ty (0,0))->ty≠115->cw.heap[k]?=some (.cells cs ty (0,0)):=fun k cs ty hk cy=>by have jl:=jq hk;rw[rt.block k (by rw[cc];omega) (fun e=>sD jA hk cy e.symm),wx.block k jl,hk]
     have cr:=(FJ.d _ bg).1;have aI:=XQ _ _ _ cr.qi K;have aZ:=XQ _ _ _ (Below.a8 bg aO) K;have kz:=jq cr.qi;have nu:=jq (Below.a8 bg aO);refine⟨rfl,Jx.d w' bg,aC,bA,cw,AN,⟨Z aI (i:=0) rfl,Z aI (i:=1) rfl,Z aI (i:=2) rfl,Z aZ (i:=0) rfl,Z aZ (i:=1) rfl⟩,⟨r,r,r,r⟩,u ⟨cE,?_,?_⟩⟩
     ·rw[LF];have kX:((j.count+1:Nat):Int)=eE+1:=by rw[<-lg.d];rfl
      rw[kX];exact Cr
     ·rw[mo.d];refine dk.snoc rfl ?_ (Cm.ad XP);have kX:((j.count+1:Nat):Int)=eE+1:=by rw[<-lg.d];rfl
      have aoe:=(XP _ _ XO).trans XO;refine⟨?_,fun k e=>?_⟩
      ·have:=Jr (lo:=0) (size:=3) aoe bu 3 rfl K;show cw.ownsRow 0 112 3 _ 3 (fc [iX ((j.count+1:Nat):Int),CN kt,iX kV]);rw[kX];exact this
      ·obtain rfl:W.heap.size=k:=by simpa [Value.ownBlock] using e
       exact bX Px.d.2.size XM.size)
    have aof:Hid (Below mz.heap.size mz mz.drew):=u ⟨rfl,rfl,rfl,ap,fun _ _=>rfl⟩;obtain⟨nc,s1,s2,dd,qQ⟩:=Jx.d mz (Below.refl _ _);have xj:=an;clear aO dF an Cw bc;go_region_law (first
     | (refine IG rfl (.tmp 37) (.tmp 48) 60 60 rfl (.slice dc ii de) (.slice (some ⟨bh.heap.size,0,none⟩) 1 1) (by simp[Act.eval]) (by simp[Act.eval]) (qa.d _) ?_)
     | (go_simp;go_at_call 46;refine(oI.d aA oO.d).mono ?_;rintro e bh ⟨rfl,⟨d0,d1,d2,d3,d4⟩,aC,bA,cw,AN,⟨gm,aI,aZ,a6,dt⟩,⟨k6,q1,bN,fR⟩,F4⟩;have qa:=u AN;clear AN)
     | (go_simp;go_at_call 45;refine(CD.d S kh.d).mono ?_;rintro e aA ⟨rfl,⟨hr,cN,bL,fS,jg⟩,oO⟩)
     | (go_simp;go_at_call 47;refine(AL.d mz.drew aof.d).mono ?_;rintro e S ⟨rfl,⟨a0,bq,a2,a3,a4⟩,kh⟩))
    all_goals
     clear nc s1 s2 dd qQ a0 bq a2 a3 a4 hr cN bL fS jg d0 d1 d2 d3 d4 gm aI aZ a6 dt k6 q1 bN fR;go_wp2_with fail;have ae:=ch.d;have BE:=sz.d;go_roundg (gk-1);case measure=>omega
     case rel=>exact⟨ii+1,_,r,by go_num,u F4.d.2.1,u F4.d.2.2,u F4.d.1,r⟩
   ·have eZ:ii=ts.length:=r;subst eZ;have cL:(ts.length:Int)<=(ts.length:Int):=r;clear ae aD;obtain⟨dc,de,AM⟩:=cG an.d;subst AM;have Jy:Hid (Below w.heap.size w wr):=u (Below.fK kO.d bc.d);have Jz:Hid (qj w b6 bt cj lc aX bD eE bQ cU time wr aB ib):=u (yR.d.below bc.d);have XR:Hid (fB (db F w) wr (.slice dc ts.length de) (ts.map (AO j.count))):=u (by
     have eN:=Cw.d;rw[List.take_length] at eN;refine⟨rs,⟨?_,fun k e=>db.new (bX kO.d.size (an.d.lt k e).1)⟩,eN.move (dj.to fun k _ hk=>db.new (bX kO.d.size hk))⟩;rw[cZ];exact ei bu an.d)
    have gy:Hid (∀w',Below wr.heap.size wr w'->(dp w' w.heap.size 0=some (.slice b6 cj lc)/\dp w' w.heap.size 1=some (.slice bt aX bD)/\dp w' aB 0=some (q (eE+1))/\dp w' aB 1=some (.slice (some ⟨ib,0,none⟩) 3 3)/\dp w' (w.heap.size+1+1) 0=some (q (eE+1)))/\FY w.heap.size aB w'.heap.size/\w'.heap[w.heap.size+1]?=some (.cells #[.slice none 0 0,.slice none 0 0,q 0] 62 (0,0))):=u (fun w' A=>by
     obtain⟨q1,bN,fR,iK,j4⟩:=Jz.d.below A;have l1:=jq q1.dQ;have bT:=jq bN;exact⟨⟨Z q1.ce (i:=0) rfl,Z q1.ce (i:=1) rfl,Z bN (i:=0) rfl,Z bN (i:=1) rfl,Z q1.dQ (i:=0) rfl⟩,by unfold FY;omega,q1.rs⟩)
    have gu:Hid (∀W aI aZ,Below wr.heap.size wr W->W.heap[aI]?=some (.cells #[.slice b6 cj lc,.slice (some ⟨aZ,0,none⟩) 1 1] 60 (0,0))->W.heap[aZ]?=some (.cells #[q (eE+1),.slice (some ⟨ib,0,none⟩) 3 3] 115 (0,0))->wr.heap.size<=aZ->ey 49 #[.slice (some ⟨aI,0,none⟩) 2 2] W fun e w'=>∃a n c,e=.returned (.slice a n c)/\(dp w' w.heap.size 0=some (.slice b6 cj lc)/\dp w' w.heap.size 1=some (.slice bt aX bD)/\dp w' aB 0=some (q (eE+1))/\dp w' aB 1=some (.slice (some ⟨ib,0,none⟩) 3 3)/\dp w' (w.heap.size+1+1) 0=some (q (eE+1)))/\FY w.heap.size aB w'.heap.size/\Hid (Below W.heap.size W w'/\Below wr.heap.size wr w'/\fB (db F w) w' (.slice a n c) (nh cU time ts j).log)):=u (fun W aI aZ A g1 g2 hk=>by
     have hK:=Below.fK Jy.d A;have aog:=Below.a8 A Jz.d.2.2.1;have kX:((j.count+1:Nat):Int)=eE+1:=by rw[<-lg.d];rfl
     have kv:fB (db F w) W (.slice (some ⟨aZ,0,none⟩) 1 1) [(j.count+1,[iX ((j.count+1:Nat):Int),CN cU,iX time])]:=by
      refine⟨[(j.count+1,.slice (some ⟨ib,0,none⟩) 3 3)],⟨?_,fun k e=>?_⟩,⟨⟨rfl,⟨?_,fun k e=>?_⟩⟩,trivial⟩⟩
      ·show W.ownsRow 0 115 2 _ 1 [q ((j.count+1:Nat):Int),.slice (some ⟨ib,0,none⟩) 3 3];rw[kX];exact Jr (lo:=0) (size:=2) g2 bu 1 rfl K
      ·obtain rfl:aZ=k:=by simpa [Value.ownBlock] using e
       exact db.new (bX Jy.d.size hk)
      ·show W.ownsRow 0 112 3 _ 3 (fc [iX ((j.count+1:Nat):Int),CN cU,iX time]);rw[kX];exact Jr (lo:=0) (size:=3) aog bu 3 rfl K
      ·obtain rfl:ib=k:=by simpa [Value.ownBlock] using e
       exact db.new Jz.d.2.2.2.2
     refine(XB (F:=db F w) _ _ _ _ aI W (yz.d.move (dj.mP hK)) kv g1 (by have:=fk.d.1;show _+1<=_;omega)).mono ?_;rintro e w' ⟨a,n,c,rfl,u1,u2⟩;have ah:=Below.fK A u2;refine⟨a,n,c,rfl,(gy.d w' ah).1,(gy.d w' ah).2.1,u ⟨u2,ah,u1.wide (Xs hK.size)⟩⟩)
    have fG:Hid (∀W k,Below wr.heap.size wr W->W.heap[k]?=some (.cells #[.slice bt aX bD,.slice dc ts.length de] 60 (0,0))->ey 49 #[.slice (some ⟨k,0,none⟩) 2 2] W fun e w'=>∃a n c,e=.returned (.slice a n c)/\(dp w' w.heap.size 0=some (.slice b6 cj lc)/\dp w' w.heap.size 1=some (.slice bt aX bD)/\dp w' aB 0=some (q (eE+1))/\dp w' aB 1=some (.slice (some ⟨ib,0,none⟩) 3 3)/\dp w' (w.heap.size+1+1) 0=some (q (eE+1)))/\(dp w' (w.heap.size+1) 0=some (.slice none 0 0)/\dp w' (w.heap.size+1) 1=some (.slice none 0 0)/\dp w' (w.heap.size+1) 2=some (q 0))/\(w'.frozen? ⟨w.heap.size+1,0,none⟩=false/\w'.frozen? ⟨w.heap.size+1,1,none⟩=false/\w'.frozen? ⟨w.heap.size+1,2,none⟩=false)/\(¬w.heap.size+1=aB/\¬aB=w.heap.size+1/\¬w.heap.size+1+1=w.heap.size+1)/\Hid (Below W.heap.size W w'/\Below wr.heap.size wr w'/\fB (db F w) w' (.slice a n c) (nh cU time ts j).ng)):=u (fun W k A g1=>by
     have hK:=Below.fK Jy.d A;refine(XB (F:=db F w) _ _ _ _ k W (XK.d.move (dj.mP hK)) (XR.d.below A) g1 (by have:=fk.d.2.1;have:=fk.d.2.2;rw[cZ];omega)).mono ?_;rintro e w' ⟨a,n,c,rfl,u1,u2⟩;have ah:=Below.fK A u2;obtain⟨hs,_,b1⟩:=gy.d w' ah;have cr:¬aB=w.heap.size+1:=by rintro rfl;have:=(Jz.d.below ah).2.1;rw[b1] at this;injection this with this;injection this with _ this;cases this
     refine⟨a,n,c,rfl,hs,⟨Z b1 (i:=0) rfl,Z b1 (i:=1) rfl,Z b1 (i:=2) rfl⟩,⟨aQ b1,aQ b1,aQ b1⟩,⟨fun e=>cr e.symm,cr,r⟩,u ⟨u2,ah,?_⟩⟩;exact u1.wide (Xs hK.size))
    have yk:Hid (∀w',Below wr.heap.size wr w'->(dp w' w.heap.size 0=some (.slice b6 cj lc)/\dp w' w.heap.size 1=some (.slice bt aX bD)/\dp w' aB 0=some (q (eE+1))/\dp w' aB 1=some (.slice (some ⟨ib,0,none⟩) 3 3)/\dp w' (w.heap.size+1+1) 0=some (q (eE+1)))):=u (fun w' A=>(gy.d w' A).1);have w8:Hid (Below wr.heap.size wr wr.drew):=u ⟨rfl,rfl,rfl,ap,fun _ _=>rfl⟩;obtain⟨⟨nc,s1,s2,dd,qQ⟩,cy,-⟩:=gy.d wr (Below.refl _ _);unfold FY at cy;obtain⟨m0,m1,m2,m3,m4,m5,m6,m7,m8,m9,m10,m11,m12,m13,m14,m15,m16,m17,m18,m19,m20,m21,m22,m23⟩:=cy
    have nC:Hid (∀W w' a n c a2 b9 c2,Below wr.heap.size wr W->fB (db F w) W (.slice a n c) (nh cU time ts j).log->Below W.heap.size W w'->fB (db F w) w' (.slice a2 b9 c2) (nh cU time ts j).ng->Below wr.heap.size wr w'->fB (db F w) (((w'.setCell ⟨w.heap.size+1,0,none⟩ (.slice a n c)).setCell ⟨w.heap.size+1,1,none⟩ (.slice a2 b9 c2)).setCell ⟨w.heap.size+1,2,none⟩ (q (eE+1))) (.slice a n c) (nh cU time ts j).log/\fB (db F w) (((w'.setCell ⟨w.heap.size+1,0,none⟩ (.slice a n c)).setCell ⟨w.heap.size+1,1,none⟩ (.slice a2 b9 c2)).setCell ⟨w.heap.size+1,2,none⟩ (q (eE+1))) (.slice a2 b9 c2) (nh cU time ts j).ng/\Below w.heap.size w (((w'.setCell ⟨w.heap.size+1,0,none⟩ (.slice a n c)).setCell ⟨w.heap.size+1,1,none⟩ (.slice a2 b9 c2)).setCell ⟨w.heap.size+1,2,none⟩ (q (eE+1)))):=u (fun W w' a n c a2 b9 c2 cN hx bL dL fS=>by
     obtain⟨_,_,b1⟩:=gy.d w' fS;have aoh:=hx.below bL;exact⟨((aoh.set b1 K K _ _).set (hc b1 _) K K _ _).set (hc (hc b1 _) _) K K _ _,((dL.set b1 K K _ _).set (hc b1 _) K K _ _).set (hc (hc b1 _) _) K K _ _,(((Below.fK Jy.d fS).setCell (p:=⟨w.heap.size+1,0,none⟩) (Nat.le_succ _) _).setCell (p:=⟨w.heap.size+1,1,none⟩) (Nat.le_succ _) _).setCell (p:=⟨w.heap.size+1,2,none⟩) (Nat.le_succ _) _⟩)
    have IE:Hid (((j.count+1:Nat):Int)=eE+1):=u (by rw[<-lg.d];rfl);clear Jv kO yz XK gy XR an Cw bc uj tU;go_upto_region 11 with fail;go_region_held3 (fun w'=>w'.cell? ⟨w.heap.size,0,none⟩=some (.slice b6 cj lc)/\w'.cell? ⟨w.heap.size,1,none⟩=some (.slice bt aX bD)/\w'.cell? ⟨aB,0,none⟩=some (q (eE+1))/\w'.cell? ⟨aB,1,none⟩=some (.slice (some ⟨ib,0,none⟩) 3 3)/\w'.cell? ⟨w.heap.size+1+1,0,none⟩=some (q (eE+1))) (first | exact yk.d _ (anB _ _ _ _) | go_keep) (first
     | (go_at_call 49;refine(fG.d _ _ (by first | exact jd.d.2.1 | exact jd.d.2.1.alloc jd.d.2.1.size _) (by first | exact l8 rfl | exact Below.a8 jd.d.1 (l8 (by simp)) | exact Below.a8 jd.d.1 (oL _ (l8 (by simp))) | exact Below.a8 jd.d.1 (oL _ (oL _ (l8 (by simp)))))).mono ?_;rintro e S ⟨hl,e2,iL,rfl,⟨hr,cN,bL,fS,jg⟩,⟨Eh,Gj,atp⟩,⟨Qf,Qg,Qh⟩,⟨J6,J7,J8⟩,kh⟩)
     | (go_at_call 49;refine(gu.d _ _ _ (by first | exact(w8.d.alloc w8.d.size _).alloc (by rw[cc];exact Nat.le_succ_of_le w8.d.size) _ | exact((w8.d.alloc w8.d.size _).alloc (by rw[cc];exact Nat.le_succ_of_le w8.d.size) _).alloc (by rw[cc,cc];exact Nat.le_succ_of_le (Nat.le_succ_of_le w8.d.size)) _) (by first | exact l8 (by simp) | exact oL _ (l8 (by simp))) (by first | exact l8 (by simp) | exact oL _ (l8 (by simp)) | exact oL _ (oL _ (l8 (by simp)))) (by first | exact ap | exact Nat.le_succ _)).mono ?_;rintro e J ⟨XS,j7,XT,rfl,⟨a0,bq,a2,a3,a4⟩,pm,jd⟩;unfold FY at pm;obtain⟨p0,p1,p2,fw,pf,rR,sQ,vk,aoi,aoj,vC,aok,F1,aol,aom,aon,aoo,aop,aoq,aor,aos,aot,aou,aov⟩:=pm))
    all_goals
     clear nc s1 s2 dd qQ a0 bq a2 a3 a4 hr cN bL fS jg m0 m1 m2 m3 m4 m5 m6 m7 m8 m9 m10 m11 m12 m13 m14 m15 m16 m17 m18 m19 m20 m21 m22 m23 p0 p1 p2 fw pf rR sQ vk aoi aoj vC aok F1 aol aom aon aoo aop aoq aor aos aot aou aov J6 J7 J8;go_wp2_with fail;refine bodyPost_ret (v:=.agg #[.slice XS j7 XT,.slice hl e2 iL,q (eE+1)]) (by simp[results,results22,go_sem, *]) rfl ?_;refine⟨XS,j7,XT,hl,e2,iL,by rw[IE.d],?_⟩;first
      | exact nC.d _ _ _ _ _ _ _ _ jd.d.2.1 jd.d.2.2 kh.d.1 kh.d.2.2 kh.d.2.1
      | exact nC.d _ _ _ _ _ _ _ _ (jd.d.2.1.alloc jd.d.2.1.size _) (jd.d.2.2.below cT) kh.d.1 kh.d.2.2 kh.d.2.1
