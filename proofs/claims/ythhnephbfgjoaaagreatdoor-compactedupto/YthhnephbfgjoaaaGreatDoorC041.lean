import Derived.Test.YthhnephbfgjoaaaGreatDoorC040
set_option maxHeartbeats 0
set_option maxRecDepth 100000
set_option linter.all false
namespace Go.Proofs.ax0
open Tryz
open Go.RowKit Go.Sort Go.Shelf
open bS
variable{W jx w w':World}{aB b base c c2 i k lc cj lo n b9 pc pn bD aX:Nat}{a a2 b6 pa bt:Option Addr}{l:List n9}{o:Obj}{F L:Nat->Prop}{v:Value}{out:List l7}{cs:Array Value}{t:aL}{j:qh}{s:ni}{ts:e4}{td:List eb}{eH:e6}{x:Nat×List al}{m:Int}
def anA:(prog.info? 115).map (fun i=>(i.zero,i.size,i.bytes))=some (some (.agg #[q 0,.slice none 0 0]),2,32):=ax
def XI{l:List fo}(h:w.ownsRow lo 84 2 (.slice a n c) l.length (l.flatMap dX))(i:Nat)(hi:i<l.length):∃g,a=some ⟨g,0,none⟩/\g<w.heap.size/\dp w g (i*2)=some (.string l[i].1)/\dp w g (i*2+1)=some (q l[i].2):=by
 obtain⟨nB,e7,e⟩:=cG h;injection e with Y am bm;subst Y am bm;obtain⟨g,e,R⟩:=vA h r;subst e;letI:Inhabited fo:=⟨l[i]⟩
 have aw:=sP dX 2 K (fun _=>rfl) l (i*2) r;have h1:=sP dX 2 K (fun _=>rfl) l (i*2+1) r;rw[show i*2/2=i by omega,show i*2%2=0 by omega,getElem!_pos l i hi] at aw;rw[show(i*2+1)/2=i by omega,show(i*2+1)%2=1 by omega,getElem!_pos l i hi] at h1;have bk:=h.cells rfl _ _ aw;have c1:=h.cells rfl _ _ h1;rw[Addr.add_lit,ax1] at bk c1;exact⟨g,rfl,R,bk,c1⟩
def anB(w:World)(a b c:Obj):Below w.heap.size w (((w.alloc a).alloc b).alloc c).drew:=by have h:=(((Below.refl w.heap.size w).alloc ap a).alloc (by rw[cc];omega) b).alloc (by rw[cc,cc];omega) c;exact⟨h.os,h.tape,h.output,h.size,h.block⟩
def FY(b aB z:Nat):Prop:=¬b=z/\¬z=b/\¬b=z+1/\¬z+1=b/\¬b=z+1+1/\¬z+1+1=b/\¬aB=z/\¬z=aB/\¬aB=z+1/\¬z+1=aB/\¬aB=z+1+1/\¬z+1+1=aB/\¬b+1+1=z/\¬z=b+1+1/\¬b+1+1=z+1/\¬z+1=b+1+1/\¬b+1+1=z+1+1/\¬z+1+1=b+1+1/\¬b=z+2/\¬z+2=b/\¬aB=z+2/\¬z+2=aB/\¬b+1+1=z+2/\¬z+2=b+1+1
def AO(n:Nat)(t:fo):Nat×List al:=(n+1,[iX ((n+1:Nat):Int),CN t.1,iX t.2])
def FZ(bQ:Nat)(n:Int)(W w':World):Prop:=(dp w' bQ 0=some (q 1)/\dp w' bQ 1=some (q n)/\dp w' bQ 2=some (.string ⟨#[]⟩))/\(¬bQ=w'.heap.size/\¬w'.heap.size=bQ/\¬bQ=w'.heap.size+1/\¬w'.heap.size+1=bQ)/\(∀aB,aB<W.heap.size->aB<w'.heap.size/\aB<=w'.heap.size/\aB<=w'.heap.size+1/\¬aB=w'.heap.size/\¬w'.heap.size=aB/\¬aB=w'.heap.size+1/\¬w'.heap.size+1=aB)/\(∀aB i,aB<W.heap.size->dp w' aB i=dp W aB i)/\∀aB i,aB<W.heap.size->w'.frozen? ⟨aB,i,none⟩=W.frozen? ⟨aB,i,none⟩
def l8(h:k=w.heap.size):(w.alloc o).heap[k]?=some o:=by subst h;exact bH w o
def CP{dB:World}(h:Below dB.heap.size dB w'):(∀aB i,aB<dB.heap.size->dp w' aB i=dp dB aB i)/\∀aB i,aB<dB.heap.size->w'.frozen? ⟨aB,i,none⟩=dB.frozen? ⟨aB,i,none⟩:=⟨fun aB i cr=>h.cell (p:=⟨aB,i,none⟩) cr,fun aB i cr=>Xt (h.block aB cr)⟩
def Below.CQ(h:Below (w.alloc o).heap.size (w.alloc o) w'):Below w.heap.size w w':=((Below.refl _ _).alloc ap o).trans (h.mono (by rw[cc];omega))
def Below.fK{a b c:World}(h:Below a.heap.size a b)(g:Below b.heap.size b c):Below a.heap.size a c:=h.trans (g.mono h.size)
def anC(b6 bt:Option Addr)(cj lc aX bD lo:Nat)(cU:e6)(time:Int)(XJ:Value)(ts:List fo)(j:qh)(w:World)(h1:fB F w (.slice b6 cj lc) j.log)(H:fB F w (.slice bt aX bD) j.ng)(kz:j.log.length<=10000)(nu:j.ng.length<=800000)(ai:j.count<=1000000)(hu:cU.size<=1000000)(au:w.ownsRow lo 84 2 XJ ts.length (ts.flatMap dX))(tU:ts.length<=100000):ey 37 #[.agg #[.slice b6 cj lc,.slice bt aX bD,q (j.count:Int)],.string cU,q time,XJ] w fun e w'=>∃a n c a2 b9 c2,e=.returned (.agg #[.slice a n c,.slice a2 b9 c2,q ((j.count+1:Nat):Int)])/\fB (db F w) w' (.slice a n c) (nh cU time ts j).log/\fB (db F w) w' (.slice a2 b9 c2) (nh cU time ts j).ng/\Below w.heap.size w w':=by
 obtain⟨uK,vF,rfl⟩:=cG au;have yz:=u h1;have XK:=u H;have wL:=u au;have fk:=u (And.intro kz (And.intro nu tU));have atn:=u ai;have uj:IntKind.i64.wrap ((j.count:Int)+1)=(j.count:Int)+1:=mC;have sW:=u hu;clear h1 H au kz nu ai hu tU;generalize LD:(j.count:Int)=eE at *;have lg:=u LD;clear LD;go_enter func37,ntmps37;go_upto_region 4 with(go_at_call 63;refine(tg _ _).mono ?_;rintro e J ⟨rfl,bJ⟩);have iv:kU w b6 bt cj lc aX bD eE J.heap.size (J.alloc (.cells #[q 1,q (eE+1),.string ⟨#[]⟩] 137)):=by
  have qc:=(((Below.refl w.heap.size w).alloc ap (.cells #[.slice b6 cj lc,.slice bt aX bD,q eE] 57)).alloc (by rw[cc];omega) (.cells #[.slice none 0 0,.slice none 0 0,q 0] 57)).alloc (by rw[cc,cc];omega) (.cells #[q (eE+1)] 3);refine⟨(qc.trans (bJ.mono qc.size)).alloc (bX qc.size bJ.size) _,oL _ (Below.a8 bJ (oL _ (oL _ (bH w _)))),oL _ (Below.a8 bJ (oL _ ?_)),oL _ (Below.a8 bJ ?_),bH J _,bX qc.size bJ.size⟩
  ·have:=bH (w.alloc (.cells #[.slice b6 cj lc,.slice bt aX bD,q eE] 57)) (.cells #[.slice none 0 0,.slice none 0 0,q 0] 57);rwa [cc] at this
  ·have:=bH ((w.alloc (.cells #[.slice b6 cj lc,.slice bt aX bD,q eE] 57)).alloc (.cells #[.slice none 0 0,.slice none 0 0,q 0] 57)) (.cells #[q (eE+1)] 3);rwa [cc,cc] at this
 clear bJ;generalize J.alloc (.cells #[q 1,q (eE+1),.string ⟨#[]⟩] 137)=lU at *;generalize J.heap.size=bQ at *;have F0:Hid (∀W w',kU w b6 bt cj lc aX bD eE bQ W->Below W.heap.size W w'->FZ bQ (eE+1) W w'/\Hid (Below W.heap.size W w'/\kU w b6 bt cj lc aX bD eE bQ w')):=u (fun W w' h A=>by
  have H:=h.below A;have X:=jq H.qi;exact⟨⟨⟨Z H.qi (i:=0) rfl,Z H.qi (i:=1) rfl,Z H.qi (i:=2) rfl⟩,⟨r,r,r,r⟩,fun aB cr=>by have:=A.size;exact⟨r,r,r,r,r,r,r⟩,fun aB i cr=>A.cell (p:=⟨aB,i,none⟩) cr,fun aB i cr=>Xt (A.block aB cr)⟩,u ⟨A,H⟩⟩)
 have uu:Hid (∀W,kU w b6 bt cj lc aX bD eE bQ W->ey 51 #[.string cU] W fun e w'=>e=.returned (.string cU)/\FZ bQ (eE+1) W w'/\Hid (Below W.heap.size W w'/\kU w b6 bt cj lc aX bD eE bQ w')):=u (fun W h=>(Kr cU W (bX sW.d K)).mono (fun e w' U=>⟨U.1,F0.d W w' h U.2⟩));have AL:Hid (∀W s,kU w b6 bt cj lc aX bD eE bQ W->ey 65 #[.string s] W fun e w'=>e=.returned (.agg #[q 2,q 0,.string s])/\FZ bQ (eE+1) W w'/\Hid (Below W.heap.size W w'/\kU w b6 bt cj lc aX bD eE bQ w')):=u (fun W s h=>(Ki s W).mono (fun e w' U=>⟨U.1,F0.d W w' h U.2⟩))
 have CD:Hid (∀W n,kU w b6 bt cj lc aX bD eE bQ W->ey 63 #[q n] W fun e w'=>e=.returned (.agg #[q 1,q n,.string ⟨#[]⟩])/\FZ bQ (eE+1) W w'/\Hid (Below W.heap.size W w'/\kU w b6 bt cj lc aX bD eE bQ w')):=u (fun W n h=>(tg n W).mono (fun e w' U=>⟨U.1,F0.d W w' h U.2⟩));have oI:Hid (∀W k,kU w b6 bt cj lc aX bD eE bQ W->ey 64 #[.slice (some ⟨k,0,none⟩) 3 3,.pointer (some ⟨w.heap.size+1+1,0,none⟩)] W fun e w'=>e=.returned (.agg #[q (eE+1),.slice (some ⟨k,0,none⟩) 3 3])/\FZ bQ (eE+1) W w'/\Hid (Below W.heap.size W w'/\kU w b6 bt cj lc aX bD eE bQ w')):=u (fun W k h=>(Xx (eE+1) (w.heap.size+1+1) (some ⟨k,0,none⟩) 3 3 W (Z h.dQ (i:=0) rfl) (jq h.dQ)).mono (fun e w' U=>⟨U.1,F0.d W w' h U.2⟩))
 have Cn:Hid (kU w b6 bt cj lc aX bD eE bQ lU.drew):=u (iv.below ⟨rfl,rfl,rfl,ap,fun _ _=>rfl⟩);obtain⟨z0,b3,z2⟩:dp lU bQ 0=some (q 1)/\dp lU bQ 1=some (q (eE+1))/\dp lU bQ 2=some (.string ⟨#[]⟩):=⟨Z iv.qi (i:=0) rfl,Z iv.qi (i:=1) rfl,Z iv.qi (i:=2) rfl⟩;obtain⟨ji,bM⟩:¬bQ=lU.heap.size/\¬lU.heap.size=bQ:=by have:=jq iv.qi;exact⟨r,r⟩
 have l9:=u iv;clear iv;go_cut [12] (fun F1 wc=>∃aB ib,F1=M aB/\Hid (qj w b6 bt cj lc aX bD eE bQ cU time wc aB ib));case first=>
  go_region_held3 (fun w'=>w'.cell? ⟨bQ,0,none⟩=some (q 1)/\w'.cell? ⟨bQ,1,none⟩=some (q (eE+1))/\w'.cell? ⟨bQ,2,none⟩=some (.string ⟨#[]⟩)) (go_keep) (first
   | (go_at_call 64;refine(oI.d _ _ (by first | exact oO.d.2.alloc _ | exact(oO.d.2.alloc _).alloc _)).mono ?_;rintro e bh ⟨rfl,⟨⟨anD,anE,anF⟩,⟨anG,anH,Gx,anI⟩,anJ,anK,anL⟩,pr⟩;have F2:Below aA.heap.size aA bh:=(by first | exact Below.CQ pr.d.1 | exact Below.CQ (Below.CQ pr.d.1));have F3:Below S.heap.size S bh:=Below.fK (by first | exact oO.d.1 | exact Below.CQ oO.d.1) F2;have Ju:Below J.heap.size J bh:=Below.fK (by first | exact kh.d.1 | exact Below.CQ kh.d.1) F3;obtain⟨c1,f1⟩:=CP (Below.fK jd.d.1 Ju);obtain⟨c2,f2⟩:=CP (Below.fK kh.d.1 F3);obtain⟨dZ,f3⟩:=CP (Below.fK oO.d.1 F2);replace Ju:=u Ju;replace F3:=u F3;replace F2:=u F2)
   | (go_at_call 63;refine(CD.d _ _ (by first | exact kh.d.2 | exact kh.d.2.alloc _)).mono ?_;rintro e aA ⟨rfl,⟨⟨anM,anN,anO⟩,⟨anP,anQ,anR,anS⟩,anT,anU,anV⟩,oO⟩)
   | (go_at_call 65;refine(AL.d _ _ (by first | exact jd.d.2 | exact jd.d.2.alloc _)).mono ?_;rintro e S ⟨rfl,⟨⟨anW,anX,anY⟩,⟨anZ,an0,an1,an2⟩,an3,an4,an5⟩,kh⟩)
   | (go_at_call 51;refine(uu.d _ (by first | exact Cn.d | exact Cn.d.alloc _)).mono ?_;rintro e J ⟨rfl,⟨⟨y0,y1,y2⟩,⟨y3,an6,an7,an8⟩,an9,aoa,aob⟩,jd⟩))
  all_goals
   have aoc:Hid (w.heap.size<=lU.heap.size/\w.heap.size<=J.heap.size/\w.heap.size<=S.heap.size/\w.heap.size<=aA.heap.size):=u ⟨l9.d.ho.size,jd.d.2.ho.size,kh.d.2.ho.size,oO.d.2.ho.size⟩;clear y0 y1 y2 y3 an6 an9 aoa aob an7 an8 anW anX anY anZ an0 an3 an4 an5 an1 an2 anM anN anO anP anQ anT anU anV anR anS anD anE anF anG anH anJ anK anL Gx anI c1 c2 dZ f1 f2 f3 z0 b3 z2 ji bM;go_wp2_with fail;go_meet;case rel=>
    obtain⟨eR,l1,bT,xT⟩:=aoc.d;first
     | exact⟨_,_,rfl,u (qj.laid pr.d.2 (Below.a8 pr.d.1 (l8 rfl)) xT)⟩
     | exact⟨_,_,rfl,u (qj.yP pr.d.2 (Below.a8 pr.d.1 (l8 (by simp))) (Below.a8 pr.d.1 (oL _ (l8 rfl))) r r)⟩
     | exact⟨_,_,rfl,u (qj.yP pr.d.2 (Below.a8 pr.d.1 (oL _ (l8 rfl))) (Below.a8 pr.d.1 (l8 (by simp))) r r)⟩
     | exact⟨_,_,rfl,u (qj.yP pr.d.2 (Below.a8 (Below.fK oO.d.1 F2.d) (l8 rfl)) (Below.a8 pr.d.1 (l8 rfl)) r r)⟩
     | exact⟨_,_,rfl,u (qj.yP pr.d.2 (Below.a8 (Below.fK kh.d.1 F3.d) (l8 rfl)) (Below.a8 pr.d.1 (l8 rfl)) r r)⟩
     | exact⟨_,_,rfl,u (qj.yP pr.d.2 (Below.a8 (Below.fK jd.d.1 Ju.d) (l8 rfl)) (Below.a8 pr.d.1 (l8 rfl)) r r)⟩
 case rest=>
  obtain⟨aB,ib,rfl,Pw⟩:=hcut;clear uu Cn z0 b3 z2 ji bM l9 AL CD oI F0;obtain⟨ob,rfl⟩:∃x,x=wc:=⟨_,rfl⟩;have yR:=Pw;have qt:=Pw.d;have fN:Below w.heap.size w ob:=qt.1.ho;have kO:=u fN;have Jv:Hid (∀W,Below w.heap.size w W->∀i (hi:i<ts.length),∃g,uK=some ⟨g,0,none⟩/\g<w.heap.size/\dp W g (i*2)=some (.string ts[i].1)/\dp W g (i*2+1)=some (q ts[i].2)):=u (fun W A i hi=>by
   obtain⟨g,eX,R,bk,c1⟩:=XI wL.d i hi;exact⟨g,eX,R,(A.cell (p:=⟨g,i*2,none⟩) R).trans bk,(A.cell (p:=⟨g,i*2+1,none⟩) R).trans c1⟩)
  have tU:ts.length<=100000:=fk.d.2.2;clear fN qt Pw;go_upto_region 7 with fail;go_loopg [13,15,33] (ts.length+1) (fun U aE co i wr=>∃(ii:Nat) (rs:List (Nat×Value)),ii<=ts.length/\i=q (ii:Int)/\Hid (wr.ownsRow ob.heap.size 115 2 aE ii (cQ rs))/\Hid (dk (fun k=>ob.heap.size<=k) wr rs ((ts.take ii).map (AO j.count)))/\Hid (Below ob.heap.size ob wr)/\ts.length-ii<U);case atStart=>exact⟨0,[],bu,rfl,u (World.ownsRow_nil _ _ _ _),u trivial,u (Below.refl _ _),r⟩
  case round=>
   obtain⟨ii,rs,aS,rfl,an,Cw,bc,ae⟩:=hrel;by_cases aD:ii<ts.length
   ·have cL:(ii:Int)<(ts.length:Int):=r;obtain⟨g,rfl,R,bk,c1⟩:=Jv.d wr (Below.fK kO.d bc.d) ii aD;have vt:IntKind.i64.wrap ((ii:Int)+1)=(ii:Int)+1:=mC;have wU:¬g=wr.heap.size:=by have:=kO.d.size;have:=bc.d.size;omega
    have mo:Hid ((ts.take (ii+1)).map (AO j.count)=(ts.take ii).map (AO j.count)++[AO j.count ts[ii]]):=u (by rw[jD aD,List.map_append];rfl);obtain⟨dc,de,AM⟩:=cG an.d;subst AM;have ch:=u ae;have sz:=u aD;clear ae;generalize ts[ii]=T at *;obtain⟨kt,kV⟩:=T;simp only[] at bk c1;clear aD;have dF:Below wr.heap.size wr (wr.alloc (.cells #[.string kt,q kV] 84)):=cT;have aO:=bH wr (.cells #[.string kt,q kV] 84);go_upto_region 9 with fail;generalize wr.alloc (.cells #[.string kt,q kV] 84)=mz at *;generalize XL:wr.heap.size=qY at *;have Jw:=u XL;clear XL bk c1 wU;have Px:Hid (Below w.heap.size w mz/\Below ob.heap.size ob mz):=u ⟨Below.fK (Below.fK kO.d bc.d) (by rw[Jw.d];exact dF),Below.fK bc.d (by rw[Jw.d];exact dF)⟩
    have FJ:Hid (∀W,Below mz.heap.size mz W->kU w b6 bt cj lc aX bD eE bQ W/\dp W qY 0=some (.string kt)/\dp W qY 1=some (q kV)):=u (fun W A=>⟨(yR.d.1.below Px.d.2).below A,Z (Below.a8 A aO) (i:=0) rfl,Z (Below.a8 A aO) (i:=1) rfl⟩);have Jx:Hid (∀w',Below mz.heap.size mz w'->(dp w' bQ 0=some (q 1)/\dp w' bQ 1=some (q (eE+1))/\dp w' bQ 2=some (.string ⟨#[]⟩)/\dp w' qY 0=some (.string kt)/\dp w' qY 1=some (q kV))):=u (fun w' A=>by
     obtain⟨q1,bN,fR⟩:=FJ.d w' A;exact⟨Z q1.qi (i:=0) rfl,Z q1.qi (i:=1) rfl,Z q1.qi (i:=2) rfl,bN,fR⟩)
    have AL:Hid (∀W,Below mz.heap.size mz W->ey 65 #[.string kt] W fun e w'=>e=.returned (.agg #[q 2,q 0,.string kt])/\(dp w' bQ 0=some (q 1)/\dp w' bQ 1=some (q (eE+1))/\dp w' bQ 2=some (.string ⟨#[]⟩)/\dp w' qY 0=some (.string kt)/\dp w' qY 1=some (q kV))/\Hid (Below mz.heap.size mz w')):=u (fun W h=>(Ki kt W).mono (fun e w' U=>⟨U.1,Jx.d w' (Below.fK h U.2),u (Below.fK h U.2)⟩));have CD:Hid (∀W,Below mz.heap.size mz W->ey 63 #[q kV] W fun e w'=>e=.returned (.agg #[q 1,q kV,.string ⟨#[]⟩])/\(dp w' bQ 0=some (q 1)/\dp w' bQ 1=some (q (eE+1))/\dp w' bQ 2=some (.string ⟨#[]⟩)/\dp w' qY 0=some (.string kt)/\dp w' qY 1=some (q kV))/\Hid (Below mz.heap.size mz w')):=u (fun W h=>(tg kV W).mono (fun e w' U=>⟨U.1,Jx.d w' (Below.fK h U.2),u (Below.fK h U.2)⟩))
    have oI:Hid (∀W,Below mz.heap.size mz W->ey 64 #[.slice (some ⟨W.heap.size,0,none⟩) 3 3,.pointer (some ⟨w.heap.size+1+1,0,none⟩)] (W.alloc (.cells #[q 1,q (eE+1),.string ⟨#[]⟩,q 2,q 0,.string kt,q 1,q kV,.string ⟨#[]⟩] 137)) fun e w'=>e=.returned (.agg #[q (eE+1),.slice (some ⟨W.heap.size,0,none⟩) 3 3])/\(dp w' bQ 0=some (q 1)/\dp w' bQ 1=some (q (eE+1))/\dp w' bQ 2=some (.string ⟨#[]⟩)/\dp w' qY 0=some (.string kt)/\dp w' qY 1=some (q kV))/\∃aC bA cw,(∀ty,(Builtin.append_ #[55,55] ty #[.slice dc ii de,.slice (some ⟨w'.heap.size,0,none⟩) 1 1]).run prog (w'.alloc (.cells #[q (eE+1),.slice (some ⟨W.heap.size,0,none⟩) 3 3] 115))=.ok (.slice aC (ii+1) bA) cw)/\(dp cw bQ 0=some (q 1)/\dp cw bQ 1=some (q (eE+1))/\dp cw bQ 2=some (.string ⟨#[]⟩)/\dp cw qY 0=some (.string kt)/\dp cw qY 1=some (q kV))/\(¬bQ=w'.heap.size/\¬qY=w'.heap.size/\¬w'.heap.size=bQ/\¬w'.heap.size=qY)/\Hid (Below ob.heap.size ob cw/\cw.ownsRow ob.heap.size 115 2 (.slice aC (ii+1) bA) (ii+1) (cQ (rs++[(j.count+1,.slice (some ⟨W.heap.size,0,none⟩) 3 3)]))/\dk (fun k=>ob.heap.size<=k) cw (rs++[(j.count+1,.slice (some ⟨W.heap.size,0,none⟩) 3 3)]) ((ts.take (ii+1)).map (AO j.count)))):=u (fun W XM=>by
     have dI:=(Below.refl W.heap.size W).alloc ap (.cells #[q 1,q (eE+1),.string ⟨#[]⟩,q 2,q 0,.string kt,q 1,q kV,.string ⟨#[]⟩] 137);have aod:=bH W (.cells #[q 1,q (eE+1),.string ⟨#[]⟩,q 2,q 0,.string kt,q 1,q kV,.string ⟨#[]⟩] 137);have XN:=Below.fK XM dI;have Fj:=(FJ.d _ XN).1;refine(Xx (eE+1) (w.heap.size+1+1) (some ⟨W.heap.size,0,none⟩) 3 3 _ (Z Fj.dQ (i:=0) rfl) (jq Fj.dQ)).mono ?_;rintro e w' ⟨rfl,A⟩;have bg:=Below.fK XN A;have XO:=Below.a8 A aod;have mV:Below ob.heap.size ob w':=Below.fK Px.d.2 bg;have jA:w'.ownsRow ob.heap.size 115 2 (.slice dc ii de) ii (cQ rs):=ee (ee an.d (by rw[<-Jw.d] at dF;exact dF)) bg
     have Cm:dk (fun k=>ob.heap.size<=k) w' rs ((ts.take ii).map (AO j.count)):=(Cw.d.move (fun k hk av=>⟨av,(by rw[Jw.d] at hk;exact dF.block k hk)⟩)).move (fun k hk av=>⟨av,bg.block k hk⟩);obtain⟨cF,cw,AN,Cr,rt,ato⟩:=ug underlying55 anA rfl K K jA #[q (eE+1),.slice (some ⟨W.heap.size,0,none⟩) 3 3] rfl (by simp[Value.oneCell']) r mV.size;obtain⟨aC,bA,rfl⟩:=cG Cr;have wx:=(Below.refl w'.heap.size w').alloc ap (.cells #[q (eE+1),.slice (some ⟨W.heap.size,0,none⟩) 3 3] 115);have fs:∀k,(Value.slice dc ii de).ownBlock=some k->ob.heap.size<=k:=fun k e=>(jA.lt k e).1;have cE:Below ob.heap.size ob cw:=(Below.fK mV wx).grown rt (bX mV.size wx.size) fs
     have XP:∀(k:Nat) (cs:Array Value),w'.heap[k]?=some (.cells cs 137 (0,0))->cw.heap[k]?=w'.heap[k]?:=fun k cs hk=>by have jl:=jq hk;rw[rt.block k (by rw[cc];omega) (fun e=>sD jA hk K e.symm),wx.block k jl]
     have XQ:∀(k:Nat) (cs:Array Value) (ty:TypeId),w'.heap[k]?=some (.cells cs ty (0,0))->ty≠115->cw.heap[k]?=some (.cells cs ty (0,0)):=fun k cs ty hk cy=>by have jl:=jq hk;rw[rt.block k (by rw[cc];omega) (fun e=>sD jA hk cy e.symm),wx.block k jl,hk]
     have cr:=(FJ.d _ bg).1;have aI:=XQ _ _ _ cr.qi K;have aZ:=XQ _ _ _ (Below.a8 bg aO) K;have kz:=jq cr.qi;have nu:=jq (Below.a8 bg aO);refine⟨rfl,Jx.d w' bg,aC,bA,cw,AN,⟨Z aI (i:=0) rfl,Z aI (i:=1) rfl,Z aI (i:=2) rfl,Z aZ (i:=0) rfl,Z aZ (i:=1) rfl⟩,⟨r,r,r,r⟩,u ⟨cE,?_,?_⟩⟩
     ·rw[LF];have kX:((j.count+1:Nat):Int)=eE+1:=by rw[<-lg.d];rfl
      rw[kX];exact Cr
     ·rw[mo.d];refine dk.snoc rfl ?_ (Cm.ad XP);have kX:((j.count+1:Nat):Int)=eE+1:=by rw[<-lg.d];rfl
      have aoe:=(XP _ _ XO).trans XO;refine⟨?_,fun k e=>?_⟩
      ·have:=Jr (lo:=0) (size:=3) aoe bu 3 rfl K;show cw.ownsRow 0 137 3 _ 3 (fc [iX ((j.count+1:Nat):Int),CN kt,iX kV]);rw[kX];exact this
      ·obtain rfl:W.heap.size=k:=by simpa [Value.ownBlock] using e
       exact bX Px.d.2.size XM.size)
    have aof:Hid (Below mz.heap.size mz mz.drew):=u ⟨rfl,rfl,rfl,ap,fun _ _=>rfl⟩;obtain⟨nc,s1,s2,dd,qQ⟩:=Jx.d mz (Below.refl _ _);have xj:=an;clear aO dF an Cw bc;go_region_law (first
     | (refine IG rfl (.tmp 37) (.tmp 48) 55 55 rfl (.slice dc ii de) (.slice (some ⟨bh.heap.size,0,none⟩) 1 1) (by simp[Act.eval]) (by simp[Act.eval]) (qa.d _) ?_)
     | (go_simp;go_at_call 64;refine(oI.d aA oO.d).mono ?_;rintro e bh ⟨rfl,⟨d0,d1,d2,d3,d4⟩,aC,bA,cw,AN,⟨gm,aI,aZ,a6,dt⟩,⟨k6,q1,bN,fR⟩,F4⟩;have qa:=u AN;clear AN)
     | (go_simp;go_at_call 63;refine(CD.d S kh.d).mono ?_;rintro e aA ⟨rfl,⟨hr,cN,bL,fS,jg⟩,oO⟩)
     | (go_simp;go_at_call 65;refine(AL.d mz.drew aof.d).mono ?_;rintro e S ⟨rfl,⟨a0,bq,a2,a3,a4⟩,kh⟩))
    all_goals
     clear nc s1 s2 dd qQ a0 bq a2 a3 a4 hr cN bL fS jg d0 d1 d2 d3 d4 gm aI aZ a6 dt k6 q1 bN fR;go_wp2_with fail;have ae:=ch.d;have BE:=sz.d;go_roundg (gk-1);case measure=>omega
     case rel=>exact⟨ii+1,_,r,by go_num,u F4.d.2.1,u F4.d.2.2,u F4.d.1,r⟩
   ·have eZ:ii=ts.length:=r;subst eZ;have cL:(ts.length:Int)<=(ts.length:Int):=r;clear ae aD;obtain⟨dc,de,AM⟩:=cG an.d;subst AM;have Jy:Hid (Below w.heap.size w wr):=u (Below.fK kO.d bc.d);have Jz:Hid (qj w b6 bt cj lc aX bD eE bQ cU time wr aB ib):=u (yR.d.below bc.d);have XR:Hid (fB (db F w) wr (.slice dc ts.length de) (ts.map (AO j.count))):=u (by
     have eN:=Cw.d;rw[List.take_length] at eN;refine⟨rs,⟨?_,fun k e=>db.new (bX kO.d.size (an.d.lt k e).1)⟩,eN.move (dj.to fun k _ hk=>db.new (bX kO.d.size hk))⟩;rw[cZ];exact ei bu an.d)
    have gy:Hid (∀w',Below wr.heap.size wr w'->(dp w' w.heap.size 0=some (.slice b6 cj lc)/\dp w' w.heap.size 1=some (.slice bt aX bD)/\dp w' aB 0=some (q (eE+1))/\dp w' aB 1=some (.slice (some ⟨ib,0,none⟩) 3 3)/\dp w' (w.heap.size+1+1) 0=some (q (eE+1)))/\FY w.heap.size aB w'.heap.size/\w'.heap[w.heap.size+1]?=some (.cells #[.slice none 0 0,.slice none 0 0,q 0] 57 (0,0))):=u (fun w' A=>by
     obtain⟨q1,bN,fR,iK,j4⟩:=Jz.d.below A;have l1:=jq q1.dQ;have bT:=jq bN;exact⟨⟨Z q1.jr (i:=0) rfl,Z q1.jr (i:=1) rfl,Z bN (i:=0) rfl,Z bN (i:=1) rfl,Z q1.dQ (i:=0) rfl⟩,by unfold FY;omega,q1.rs⟩)
    have gu:Hid (∀W aI aZ,Below wr.heap.size wr W->W.heap[aI]?=some (.cells #[.slice b6 cj lc,.slice (some ⟨aZ,0,none⟩) 1 1] 55 (0,0))->W.heap[aZ]?=some (.cells #[q (eE+1),.slice (some ⟨ib,0,none⟩) 3 3] 115 (0,0))->wr.heap.size<=aZ->ey 66 #[.slice (some ⟨aI,0,none⟩) 2 2] W fun e w'=>∃a n c,e=.returned (.slice a n c)/\(dp w' w.heap.size 0=some (.slice b6 cj lc)/\dp w' w.heap.size 1=some (.slice bt aX bD)/\dp w' aB 0=some (q (eE+1))/\dp w' aB 1=some (.slice (some ⟨ib,0,none⟩) 3 3)/\dp w' (w.heap.size+1+1) 0=some (q (eE+1)))/\FY w.heap.size aB w'.heap.size/\Hid (Below W.heap.size W w'/\Below wr.heap.size wr w'/\fB (db F w) w' (.slice a n c) (nh cU time ts j).log)):=u (fun W aI aZ A g1 g2 hk=>by
     have hK:=Below.fK Jy.d A;have aog:=Below.a8 A Jz.d.2.2.1;have kX:((j.count+1:Nat):Int)=eE+1:=by rw[<-lg.d];rfl
     have kv:fB (db F w) W (.slice (some ⟨aZ,0,none⟩) 1 1) [(j.count+1,[iX ((j.count+1:Nat):Int),CN cU,iX time])]:=by
      refine⟨[(j.count+1,.slice (some ⟨ib,0,none⟩) 3 3)],⟨?_,fun k e=>?_⟩,⟨⟨rfl,⟨?_,fun k e=>?_⟩⟩,trivial⟩⟩
      ·show W.ownsRow 0 115 2 _ 1 [q ((j.count+1:Nat):Int),.slice (some ⟨ib,0,none⟩) 3 3];rw[kX];exact Jr (lo:=0) (size:=2) g2 bu 1 rfl K
      ·obtain rfl:aZ=k:=by simpa [Value.ownBlock] using e
       exact db.new (bX Jy.d.size hk)
      ·show W.ownsRow 0 137 3 _ 3 (fc [iX ((j.count+1:Nat):Int),CN cU,iX time]);rw[kX];exact Jr (lo:=0) (size:=3) aog bu 3 rfl K
      ·obtain rfl:ib=k:=by simpa [Value.ownBlock] using e
       exact db.new Jz.d.2.2.2.2
     refine(XB (F:=db F w) _ _ _ _ aI W (yz.d.move (dj.mP hK)) kv g1 (by have:=fk.d.1;show _+1<=_;omega)).mono ?_;rintro e w' ⟨a,n,c,rfl,u1,u2⟩;have ah:=Below.fK A u2;refine⟨a,n,c,rfl,(gy.d w' ah).1,(gy.d w' ah).2.1,u ⟨u2,ah,u1.wide (Xs hK.size)⟩⟩)
    have fG:Hid (∀W k,Below wr.heap.size wr W->W.heap[k]?=some (.cells #[.slice bt aX bD,.slice dc ts.length de] 55 (0,0))->ey 66 #[.slice (some ⟨k,0,none⟩) 2 2] W fun e w'=>∃a n c,e=.returned (.slice a n c)/\(dp w' w.heap.size 0=some (.slice b6 cj lc)/\dp w' w.heap.size 1=some (.slice bt aX bD)/\dp w' aB 0=some (q (eE+1))/\dp w' aB 1=some (.slice (some ⟨ib,0,none⟩) 3 3)/\dp w' (w.heap.size+1+1) 0=some (q (eE+1)))/\(dp w' (w.heap.size+1) 0=some (.slice none 0 0)/\dp w' (w.heap.size+1) 1=some (.slice none 0 0)/\dp w' (w.heap.size+1) 2=some (q 0))/\(w'.frozen? ⟨w.heap.size+1,0,none⟩=false/\w'.frozen? ⟨w.heap.size+1,1,none⟩=false/\w'.frozen? ⟨w.heap.size+1,2,none⟩=false)/\(¬w.heap.size+1=aB/\¬aB=w.heap.size+1/\¬w.heap.size+1+1=w.heap.size+1)/\Hid (Below W.heap.size W w'/\Below wr.heap.size wr w'/\fB (db F w) w' (.slice a n c) (nh cU time ts j).ng)):=u (fun W k A g1=>by
     have hK:=Below.fK Jy.d A;refine(XB (F:=db F w) _ _ _ _ k W (XK.d.move (dj.mP hK)) (XR.d.below A) g1 (by have:=fk.d.2.1;have:=fk.d.2.2;rw[cZ];omega)).mono ?_;rintro e w' ⟨a,n,c,rfl,u1,u2⟩;have ah:=Below.fK A u2;obtain⟨hs,_,b1⟩:=gy.d w' ah;have cr:¬aB=w.heap.size+1:=by rintro rfl;have:=(Jz.d.below ah).2.1;rw[b1] at this;injection this with this;injection this with _ this;cases this
     refine⟨a,n,c,rfl,hs,⟨Z b1 (i:=0) rfl,Z b1 (i:=1) rfl,Z b1 (i:=2) rfl⟩,⟨aQ b1,aQ b1,aQ b1⟩,⟨fun e=>cr e.symm,cr,r⟩,u ⟨u2,ah,?_⟩⟩;exact u1.wide (Xs hK.size))
    have yk:Hid (∀w',Below wr.heap.size wr w'->(dp w' w.heap.size 0=some (.slice b6 cj lc)/\dp w' w.heap.size 1=some (.slice bt aX bD)/\dp w' aB 0=some (q (eE+1))/\dp w' aB 1=some (.slice (some ⟨ib,0,none⟩) 3 3)/\dp w' (w.heap.size+1+1) 0=some (q (eE+1)))):=u (fun w' A=>(gy.d w' A).1);have w8:Hid (Below wr.heap.size wr wr.drew):=u ⟨rfl,rfl,rfl,ap,fun _ _=>rfl⟩;obtain⟨⟨nc,s1,s2,dd,qQ⟩,cy,-⟩:=gy.d wr (Below.refl _ _);unfold FY at cy;obtain⟨m0,m1,m2,m3,m4,m5,m6,m7,m8,m9,m10,m11,m12,m13,m14,m15,m16,m17,m18,m19,m20,m21,m22,m23⟩:=cy
    have nC:Hid (∀W w' a n c a2 b9 c2,Below wr.heap.size wr W->fB (db F w) W (.slice a n c) (nh cU time ts j).log->Below W.heap.size W w'->fB (db F w) w' (.slice a2 b9 c2) (nh cU time ts j).ng->Below wr.heap.size wr w'->fB (db F w) (((w'.setCell ⟨w.heap.size+1,0,none⟩ (.slice a n c)).setCell ⟨w.heap.size+1,1,none⟩ (.slice a2 b9 c2)).setCell ⟨w.heap.size+1,2,none⟩ (q (eE+1))) (.slice a n c) (nh cU time ts j).log/\fB (db F w) (((w'.setCell ⟨w.heap.size+1,0,none⟩ (.slice a n c)).setCell ⟨w.heap.size+1,1,none⟩ (.slice a2 b9 c2)).setCell ⟨w.heap.size+1,2,none⟩ (q (eE+1))) (.slice a2 b9 c2) (nh cU time ts j).ng/\Below w.heap.size w (((w'.setCell ⟨w.heap.size+1,0,none⟩ (.slice a n c)).setCell ⟨w.heap.size+1,1,none⟩ (.slice a2 b9 c2)).setCell ⟨w.heap.size+1,2,none⟩ (q (eE+1)))):=u (fun W w' a n c a2 b9 c2 cN hx bL dL fS=>by
     obtain⟨_,_,b1⟩:=gy.d w' fS;have aoh:=hx.below bL;exact⟨((aoh.set b1 K K _ _).set (hc b1 _) K K _ _).set (hc (hc b1 _) _) K K _ _,((dL.set b1 K K _ _).set (hc b1 _) K K _ _).set (hc (hc b1 _) _) K K _ _,(((Below.fK Jy.d fS).setCell (p:=⟨w.heap.size+1,0,none⟩) (Nat.le_succ _) _).setCell (p:=⟨w.heap.size+1,1,none⟩) (Nat.le_succ _) _).setCell (p:=⟨w.heap.size+1,2,none⟩) (Nat.le_succ _) _⟩)
    have IE:Hid (((j.count+1:Nat):Int)=eE+1):=u (by rw[<-lg.d];rfl);clear Jv kO yz XK gy XR an Cw bc uj tU;go_upto_region 11 with fail;go_region_held3 (fun w'=>w'.cell? ⟨w.heap.size,0,none⟩=some (.slice b6 cj lc)/\w'.cell? ⟨w.heap.size,1,none⟩=some (.slice bt aX bD)/\w'.cell? ⟨aB,0,none⟩=some (q (eE+1))/\w'.cell? ⟨aB,1,none⟩=some (.slice (some ⟨ib,0,none⟩) 3 3)/\w'.cell? ⟨w.heap.size+1+1,0,none⟩=some (q (eE+1))) (first | exact yk.d _ (anB _ _ _ _) | go_keep) (first
     | (go_at_call 66;refine(fG.d _ _ (by first | exact jd.d.2.1 | exact jd.d.2.1.alloc jd.d.2.1.size _) (by first | exact l8 rfl | exact Below.a8 jd.d.1 (l8 (by simp)) | exact Below.a8 jd.d.1 (oL _ (l8 (by simp))) | exact Below.a8 jd.d.1 (oL _ (oL _ (l8 (by simp)))))).mono ?_;rintro e S ⟨hl,e2,iL,rfl,⟨hr,cN,bL,fS,jg⟩,⟨Eh,Gj,atp⟩,⟨Qf,Qg,Qh⟩,⟨J6,J7,J8⟩,kh⟩)
     | (go_at_call 66;refine(gu.d _ _ _ (by first | exact(w8.d.alloc w8.d.size _).alloc (by rw[cc];exact Nat.le_succ_of_le w8.d.size) _ | exact((w8.d.alloc w8.d.size _).alloc (by rw[cc];exact Nat.le_succ_of_le w8.d.size) _).alloc (by rw[cc,cc];exact Nat.le_succ_of_le (Nat.le_succ_of_le w8.d.size)) _) (by first | exact l8 (by simp) | exact oL _ (l8 (by simp))) (by first | exact l8 (by simp) | exact oL _ (l8 (by simp)) | exact oL _ (oL _ (l8 (by simp)))) (by first | exact ap | exact Nat.le_succ _)).mono ?_;rintro e J ⟨XS,j7,XT,rfl,⟨a0,bq,a2,a3,a4⟩,pm,jd⟩;unfold FY at pm;obtain⟨p0,p1,p2,fw,pf,rR,sQ,vk,aoi,aoj,vC,aok,F1,aol,aom,aon,aoo,aop,aoq,aor,aos,aot,aou,aov⟩:=pm))
    all_goals
     clear nc s1 s2 dd qQ a0 bq a2 a3 a4 hr cN bL fS jg m0 m1 m2 m3 m4 m5 m6 m7 m8 m9 m10 m11 m12 m13 m14 m15 m16 m17 m18 m19 m20 m21 m22 m23 p0 p1 p2 fw pf rR sQ vk aoi aoj vC aok F1 aol aom aon aoo aop aoq aor aos aot aou aov J6 J7 J8;go_wp2_with fail;refine bodyPost_ret (v:=.agg #[.slice XS j7 XT,.slice hl e2 iL,q (eE+1)]) (by simp[results,results37,go_sem, *]) rfl ?_;refine⟨XS,j7,XT,hl,e2,iL,by rw[IE.d],?_⟩;first
      | exact nC.d _ _ _ _ _ _ _ _ jd.d.2.1 jd.d.2.2 kh.d.1 kh.d.2.2 kh.d.2.1
      | exact nC.d _ _ _ _ _ _ _ _ (jd.d.2.1.alloc jd.d.2.1.size _) (jd.d.2.2.below cT) kh.d.1 kh.d.2.2 kh.d.2.1
def fW.set(h:fW base w v out){t:TypeId}(A:w.heap[b]?=some (.cells cs t (0,0)))(bM:t≠46)(b9:t≠9)(dm:t≠84)(i:Nat)(x:Value):fW base (w.setCell ⟨b,i,none⟩ x) v out:=by obtain⟨bE,h1,H,ab⟩:=h;exact⟨bE,vO h1 A bM,H,fun k a c=>⟨vO (ab k a c).1 A b9,vO (ab k a c).2 A dm⟩⟩
structure oP (w:World) (b:Nat) (cs:Array Value) (L:Nat->Prop) (j:qh) (v:Value) (out:List l7) (aB:Nat) (a a2:Option Addr) (n c b9 c2:Nat) (W:World):Prop where
 st:jC w b cs W
 at_:W.heap[aB]?=some (.cells #[.slice a n c,.slice a2 b9 c2,q (j.count:Int)] 57 (0,0))
 new:w.heap.size<=aB
 log:fB L W (.slice a n c) j.log
 Py:fB L W (.slice a2 b9 c2) j.ng
 XU:fW 0 W v out
def oP.laid(cv:jC w b cs W)(h1:fB L W (.slice a n c) j.log)(H:fB L W (.slice a2 b9 c2) j.ng)(ct:fW 0 W v out):oP w b cs L j v out W.heap.size a a2 n c b9 c2 (W.alloc (.cells #[.slice a n c,.slice a2 b9 c2,q (j.count:Int)] 57)):=by have A:=(Below.refl W.heap.size W).alloc ap (.cells #[.slice a n c,.slice a2 b9 c2,q (j.count:Int)] 57);exact⟨cv.below A,bH W _,cv.ho.size,h1.below A,H.below A,ct.below A⟩
def jC.set{dn:Array Value}{t:TypeId}(cv:jC w b cs W)(cr:W.heap[aB]?=some (.cells dn t (0,0)))(bM:t≠63)(b9:t≠40)(X:w.heap.size<=aB)(x:Value):jC w b cs (W.setCell ⟨aB,i,none⟩ x):=⟨cv.ho.setCell (p:=⟨aB,i,none⟩) X x,uI x cr cv.bQ bM,uI x cr cv.up b9⟩
def oP.yP(cv:jC w b cs W)(cr:W.heap[aB]?=some (.cells #[.slice none 0 0,.slice none 0 0,q 0] 57 (0,0)))(X:w.heap.size<=aB)(h1:fB L W (.slice a n c) j.log)(H:fB L W (.slice a2 b9 c2) j.ng)(ct:fW 0 W v out):oP w b cs L j v out aB a a2 n c b9 c2 (((W.setCell ⟨aB,0,none⟩ (.slice a n c)).setCell ⟨aB,1,none⟩ (.slice a2 b9 c2)).setCell ⟨aB,2,none⟩ (q (j.count:Int))):=by
 have aI:=hc (o:=0) cr (.slice a n c);have aZ:=hc (o:=1) aI (.slice a2 b9 c2);refine⟨((cv.set cr K K X _).set aI K K X _).set aZ K K X _,hc aZ _,X,?_,?_,?_⟩
 ·exact((h1.set cr K K _ _).set aI K K _ _).set aZ K K _ _
 ·exact((H.set cr K K _ _).set aI K K _ _).set aZ K K _ _
 ·exact((ct.set cr K K K _ _).set aI K K K _ _).set aZ K K K _ _
def oP.below{w:World}{b:Nat}{cs:Array Value}{L:Nat->Prop}{j:qh}{v:Value}{out:List l7}{aB:Nat}{a a2:Option Addr}{n c b9 c2:Nat}{W aU:World}(h:oP w b cs L j v out aB a a2 n c b9 c2 W)(A:eB W aU):oP w b cs L j v out aB a a2 n c b9 c2 aU:=⟨h.st.below A,Below.a8 A h.at_,h.new,h.log.below A,h.Py.below A,h.XU.below A⟩
def aow{c:Nat->Nat}(b5:8<=w.heap.size)(aw:∀k,F k->oN w k/\8<=k)(h1:h2 (eT F c 0) w b ⟨.slice b6 cj lc,.slice bt aX bD,q (s.jr.count:Int),.slice pa pn pc,q (s.last:Int)⟩ s.ck)(aK:eg (eT F c 2) w 97 5 (.slice pa pn pc) s.nj.length (s.nj.flatMap xi))(bi:oP w b cs (db (eT F c 1) w) j v out aB a a2 n k b9 c2 W):fW 0 (((((W.setCell ⟨b,1,none⟩ (.slice a n k)).setCell ⟨b,2,none⟩ (.slice a2 b9 c2)).setCell ⟨b,3,none⟩ (q (j.count:Int))).setCell ⟨w.heap.size,0,none⟩ v).setCell ⟨w.heap.size,1,none⟩ (q 0)) v out/\vE F w b {s with jr:=j} (((((W.setCell ⟨b,1,none⟩ (.slice a n k)).setCell ⟨b,2,none⟩ (.slice a2 b9 c2)).setCell ⟨b,3,none⟩ (q (j.count:Int))).setCell ⟨w.heap.size,0,none⟩ v).setCell ⟨w.heap.size,1,none⟩ (q 0)):=by
 have A:=bi.st.ho;have Pz:F b/\c b=0:=by obtain⟨e7,aE,bs,_,bw,_⟩:=id h1;exact bw.1.1
 have bc:b<w.heap.size:=by obtain⟨⟨cs,t,m,e,_⟩,_⟩:=aw b Pz.1;exact jq e
 have c7:=bi.st.bQ;have c3:=bi.st.up;have Y:=hc (o:=1) c7 (.slice a n k);have am:=hc (o:=2) Y (.slice a2 b9 c2);have cX:((W.setCell ⟨b,1,none⟩ (.slice a n k)).setCell ⟨b,2,none⟩ (.slice a2 b9 c2)).setCell ⟨b,3,none⟩ (q (j.count:Int)) |>.heap[w.heap.size]?=some (.cells #[.slice none 0 0,q 0] 40 (0,0)):=uI _ am (uI _ Y (uI _ c7 c3 K) K) K;have cA:=hc (o:=0) cX v;refine⟨((((bi.XU.set c7 K K K _ _).set Y K K K _ _).set am K K K _ _).set cX K K K _ _).set cA K K K _ _,?_⟩;have aox:fB (db (eT F c 1) w) _ (.slice a n k) j.log:=((((bi.log.set c7 K K 1 (.slice a n k)).set Y K K 2 (.slice a2 b9 c2)).set am K K 3 (q (j.count:Int))).set cX K K 0 v).set cA K K 1 (q 0)
 have aoy:fB (db (eT F c 1) w) _ (.slice a2 b9 c2) j.ng:=((((bi.Py.set c7 K K 1 (.slice a n k)).set Y K K 2 (.slice a2 b9 c2)).set am K K 3 (q (j.count:Int))).set cX K K 0 v).set cA K K 1 (q 0);obtain⟨eU,iu⟩:=(h1.move (F':=eT F c 0) (fun k hk av=>⟨av,A.block k hk⟩)).anz (.slice a n k) (.slice a2 b9 c2) (q (j.count:Int));generalize qc:((W.setCell ⟨b,1,none⟩ (.slice a n k)).setCell ⟨b,2,none⟩ (.slice a2 b9 c2)).setCell ⟨b,3,none⟩ (q (j.count:Int))=dB at *;have qQ:da (fun U=>U=w.heap.size) dB (dB.setCell ⟨w.heap.size,0,none⟩ v):=da.set _ 0 _ rfl;have k3:da (fun U=>U=w.heap.size) (dB.setCell ⟨w.heap.size,0,none⟩ v) ((dB.setCell ⟨w.heap.size,0,none⟩ v).setCell ⟨w.heap.size,1,none⟩ (q 0)):=da.set _ 1 _ rfl;have vp:=qQ.trans' k3 (fun _ _ e=>e)
 generalize (dB.setCell ⟨w.heap.size,0,none⟩ v).setCell ⟨w.heap.size,1,none⟩ (q 0)=jx at *;have yv:W.heap.size<=dB.heap.size:=iu.size;have Iy:∀U,U<w.heap.size->U≠b->jx.heap[U]?=w.heap[U]?:=fun U ae ar=>by have H:U<W.heap.size:=e0 ae A.size;rw[vp.block U (e0 H yv) (fun e=>r),iu.block U H ar,A.block U ae]
 have aoz:h2 (eT F c 0) jx b _ s.ck:=eU.move (fun U ae av=>⟨av,vp.block U ae (fun e=>by
  obtain⟨⟨cs,t,m,bo,_⟩,_⟩:=aw U av.1;have:=jq bo;omega)⟩)
 have aoA:eg (eT F c 2) jx 97 5 (.slice pa pn pc) s.nj.length (s.nj.flatMap xi):=aK.move (fun U ae av=>⟨av,Iy U ae (fun e=>by
  have:=av.2;rw[e,Pz.2] at this;cases this)⟩)
 refine⟨fun U=>db F w U/\oN jx U,⟨fun U ae=>⟨ae.2,?_⟩,va c w 1,a,a2,pa,n,k,b9,c2,pn,pc,?_,?_,?_,?_⟩,fun U ae=>?_,⟨vp.os.trans (iu.os.trans A.os),vp.tape.trans (iu.tape.trans A.tape),vp.output.trans (iu.output.trans A.output),bX A.size (bX yv vp.size),fun U ae ar=>Iy U ae (fun e=>ar (e▸Pz.1))⟩⟩
 ·rcases ae.1 with⟨_,h⟩ | h
  ·exact(aw U h).2
  ·omega
 ·refine aoz.jW.move (dj.to fun U _ ae=>?_);have jz:U<w.heap.size:=by obtain⟨⟨cs,t,m,bo,_⟩,_⟩:=aw U ae.1.1;exact jq bo
  exact⟨⟨db.fH jz ae.1.1,ae.2⟩,by unfold va;rw[if_pos jz];exact ae.1.2⟩
 ·exact aox.jW.move (dj.to fun U _ ae=>⟨⟨(zL ae.1).1,ae.2⟩,(zL ae.1).2⟩)
 ·exact aoy.jW.move (dj.to fun U _ ae=>⟨⟨(zL ae.1).1,ae.2⟩,(zL ae.1).2⟩)
 ·refine(aoA.jW (by simp[oM])).move (dj.to fun U _ ae=>?_);have jz:U<w.heap.size:=by obtain⟨⟨cs,t,m,bo,_⟩,_⟩:=aw U ae.1.1;exact jq bo
  exact⟨⟨db.fH jz ae.1.1,ae.2⟩,by unfold va;rw[if_pos jz];exact ae.1.2⟩
 ·rcases ae.1 with⟨_,h⟩ | h
  ·exact .inl h
  ·exact .inr h
def JA(F:Nat->Prop)(w:World)(b:Nat)(C:XH)(e:Ending)(w':World):Prop:=∃a n c,e=.returned (.tuple #[.agg #[.slice a n c,q (C.Jt:Int)],q (C.qk:Int)])/\fW 0 w' (.slice a n c) C.out/\vE F w b C.FX w'
def vE.same(h:nH F w b s)(A:Below w.heap.size w w'):vE F w b s w':=⟨F,h.aside (G:=fun _=>False) ⟨A.os,A.tape,A.output,A.size,fun k hk _=>A.block k hk⟩ (fun _ _=>id),fun k hk=>.inl hk,⟨A.os,A.tape,A.output,A.size,fun k hk _=>A.block k hk⟩⟩
def aoB(w:World):fW 0 w (.slice none 0 0) []:=⟨[],World.ownsRow_nil _ _ _ _,rfl,fun i h=>absurd h (fp _)⟩
def aoC{s:e6}(h:hC s=some (ts,t)):ts.length<=400:=by
 unfold hC at h;split at h
 ·rename_i aK;obtain⟨l,h1,h⟩:=aV h;obtain⟨x,H,h⟩:=aV h;split at h
  ·injection h with h;injection h with Y am;subst Y;have:=MY (s:=s) (ts:=l.map fun x=>(⟨x.toArray⟩:e6)) (by
    rw[h1,List.map_map];congr 1;conv=>lhs;rw[<-List.map_id l]
    exact List.map_congr_left (fun t _=>by simp))
   omega
  ·cases h
 ·cases h
def PA(ae:hN td eH=0)(ag:hC eH=some (ts,t)):aJ t 2/\mr t/\3*nq t<=900/\(∃e wh g hv,t=.query e (eM t) wh g hv)/\(eM t).length<=3:=by
 obtain⟨ko,mW⟩:=Xn (aoC ag) (Pq ag);have ut:pj td t=0:=by
  unfold hN at ae;split at ae
  ·rename_i h;exact absurd ae h
  ·rw[ag] at ae;exact ae
 have ou:eh td [] t=true/\h6 t=false:=by
  unfold pj at ut;split at ut
  ·rename_i h;refine⟨h,?_⟩;split at ut
   ·cases ut
   ·rename_i H;simpa using H
  ·cases ut
 refine⟨ko,yO t 2 [] ko ou.1 ou.2,by have lq:2*nq t<=400:=mW;omega,?_⟩;cases t with
 | query e V wh g hv=>refine⟨⟨e,wh,g,hv,rfl⟩,?_⟩;have:=ou.1;rw[eh,Bool.and_eq_true] at this;exact of_decide_eq_true this.1
 | nil=>simp[aJ] at ko
 | cons=>simp[aJ] at ko
 | node=>simp[aJ] at ko
def q_in{bd:List bG}{O:Int}{hi x:Nat}{aE:Value}(ae:hN td eH=0)(ag:hC eH=some (ts,t))(hrel:oJ td bd)(wS:nW bd)(bM : -1000000000000<=O)(b9:O<=1000000000000)(aj:dK td W t [] lo hi [M x])(au:p3 F W aE bd)(R:Ground W):uG (fun k=>k<W.heap.size) td bd O t lo hi x aE W:=by obtain⟨h1,H,ab,_⟩:=PA ae ag;exact⟨wS,hrel,bM,b9,h1,H,ab,R.vC.lt,R.vC,aj,au.inside,fun k hk=>hk⟩
def apq(s:ni)(cU eH:e6)(j:qh):Prop:=∃td ts t out,oJ td s.ck.bY/\hN td eH=0/\hC eH=some (ts,t)/\oK s.ck.bY s.ck.dS (eM t) t=some out/\s.jr.count<60/\jf cU.data.toList=true/\j=nh cU s.ck.dS (hj (out.map (·.2))) s.jr
def XV{N:Nat}(f:qh->n9->Bool)(h:nH F w b s)(ok:hA N s.ck)(fit:lw s.ck)(dh:Ground w)(cU eH:e6)(hu:cU.size<=1000000)(oE:s.jr.log.length<=10000)(kv:s.jr.ng.length<=800000)(wq:s.jr.count<=1000000)(mn:s.nj.length<=1000)(hF:∀p∈s.nj,∀(W:World) (b6 bt hM:Option Addr) (cj lc aX bD CM nd:Nat) (uf:qh),Below w.heap.size w W->fB (fun k=>k<W.heap.size) W (.slice b6 cj lc) uf.log->fB (fun k=>k<W.heap.size) W (.slice bt aX bD) uf.ng->p3 (fun k=>k<W.heap.size) W (.slice hM CM nd) s.ck.bY->apq s cU eH uf->ey 68 #[Xu p,.agg #[.slice b6 cj lc,.slice bt aX bD,q (uf.count:Int)],.slice hM CM nd,q s.ck.dS] W (gU W (.bool (f uf p)))):ey 12 #[M b,.string cU,.string eH] w (JA F w b (gE f s cU eH)):=by
 have b5:=dh.uJ.js;have nv:Hid (∀W (oC xk:Nat),Below w.heap.size w W->JA F w b ⟨oC,xk,[],s⟩ (.returned (.tuple #[.agg #[.slice none 0 0,q (xk:Int)],q (oC:Int)])) W):=u (fun W oC xk A=>⟨none,0,0,rfl,aoB W,vE.same h A⟩);obtain⟨aw,c,b6,bt,pa,cj,lc,aX,bD,pn,pc,h1,H,ab,aK⟩:=id h;obtain⟨aE,rh,aoD,lX⟩:=h1.bd ok;obtain⟨td,CR,hrel⟩:=lX.B (fun t au=>(ok.B t au).gp);obtain⟨aC,c6,bA,rfl⟩:∃aC c6 bA,aE=.slice aC c6 bA:=by obtain⟨bs,_,C,_⟩:=lX;obtain⟨a,c,e⟩:=cG C.1;exact⟨a,_,c,e⟩
 have bc:=jq rh;have iD:Below w.heap.size w (w.alloc (.cells #[.slice none 0 0,q 0] 40)):=cT;have sF:jC w b #[.slice aC c6 bA,.slice b6 cj lc,.slice bt aX bD,q (s.jr.count:Int),.slice pa pn pc,q (s.last:Int),q s.ck.dS] (w.alloc (.cells #[.slice none 0 0,q 0] 40)):=⟨iD,oL _ rh,bH w _⟩;have xl:Hid (∀W,ey 34 #[.string cU] W (ov W (.bool (jf cU.data.toList)))):=u (fun W=>Kf cU W (bX hu K));have AP:Hid (ey 35 #[M b,.string eH] (w.alloc (.cells #[.slice none 0 0,q 0] 40)) (Xo td eH (w.alloc (.cells #[.slice none 0 0,q 0] 40)))):=u (am8 eH td b aC c6 bA _ (dh.below iD).uJ (Z sF.bQ (i:=0) rfl) (jq sF.bQ) ⟨_,sF.bQ⟩ (CR.heap iD));have sZ:Hid (hN (pq s.ck.bY) eH=hN td eH):=u (anp hrel eH).symm;have AQ:=u sF
 have my:=u iD;unfold gE;rw[sZ.out];by_cases fF:cU.data.toList=[]\/jf cU.data.toList=false
 ·rw[if_pos fF];have bK:=u (nv.out _ 9 0 iD);clear nv h h1 H ab aK aw lX CR hrel rh sF AP AQ my hF ok fit dh sZ iD;by_cases qq:cU.data.toList=[]
  ·obtain rfl:cU=⟨#[]⟩:=ZX qq;go_enter func12,ntmps12;go_wp2_with (go_at_call 34;refine(xl.out _).mono ?_;rintro e w' ⟨rfl,rfl⟩);refine bodyPost_ret (v:=.tuple #[.agg #[.slice none 0 0,q 0],q 9]) (by simp[results,results12,go_sem, *]) rfl bK.out
  ·have hw:jf cU.data.toList=false:=by rcases fF with h | h;exact absurd h qq;exact h
   have xx:cU.toList.isEmpty=false:=by
    rw[ByteArray.toList_eq];cases X:cU.data.toList with
    | nil=>exact absurd X qq
    | cons a C=>rfl
   have QA:¬cU.toList=[]:=by intro e;rw[e] at xx;cases xx
   rw[hw] at xl;clear fF hw qq;go_enter func12,ntmps12;go_wp2_with (go_at_call 34;refine(xl.out _).mono ?_;rintro e w' ⟨rfl,rfl⟩);refine bodyPost_ret (v:=.tuple #[.agg #[.slice none 0 0,q 0],q 9]) (by simp[results,results12,go_sem, *]) rfl bK.out
 ·rw[if_neg fF];have hw:jf cU.data.toList=true:=by
   cases aa:jf cU.data.toList with
   | true=>rfl
   | false=>exact absurd (.inr aa) fF
  have qq:¬cU.data.toList=[]:=fun e=>fF (.inl e);have xx:cU.toList.isEmpty=false:=by
   rw[ByteArray.toList_eq];cases X:cU.data.toList with
   | nil=>exact absurd X qq
   | cons a C=>rfl
  have QA:¬cU.toList=[]:=by intro e;rw[e] at xx;cases xx
  rw[hw] at xl;have wt:Hid (∀W (oC xk:Nat),Below w.heap.size w W->JA F w b ⟨oC,xk,[],s⟩ (.returned (.tuple #[.agg #[.slice none 0 0,q (xk:Int)],q (oC:Int)])) ((W.setCell ⟨w.heap.size,0,none⟩ (.slice none 0 0)).setCell ⟨w.heap.size,1,none⟩ (q (xk:Int)))):=u (fun W oC xk A=>nv.out _ oC xk ((A.setCell (p:=⟨w.heap.size,0,none⟩) ap _).setCell (p:=⟨w.heap.size,1,none⟩) ap _));have yS:Hid (∀W,jC w b #[.slice aC c6 bA,.slice b6 cj lc,.slice bt aX bD,q (s.jr.count:Int),.slice pa pn pc,q (s.last:Int),q s.ck.dS] W->(dp W w.heap.size 0=some (.slice none 0 0)/\dp W w.heap.size 1=some (q 0))/\(W.frozen? ⟨w.heap.size,0,none⟩=false/\W.frozen? ⟨w.heap.size,1,none⟩=false)):=u (fun W cv=>⟨⟨Z cv.up (i:=0) rfl,Z cv.up (i:=1) rfl⟩,⟨aQ cv.up,aQ cv.up⟩⟩)
  by_cases AR:hN td eH≠0
  ·rw[if_pos AR];have FB:((hN td eH:Int)==0)=false:=by rw[cV];omega
   have kL:¬(hN td eH:Int)=0:=r;have cK:Hid (ey 35 #[M b,.string eH] (w.alloc (.cells #[.slice none 0 0,q 0] 40)) fun e J=>∃rS,e=.returned (.tuple #[rS,q (hN td eH:Int)])/\((dp J w.heap.size 0=some (.slice none 0 0)/\dp J w.heap.size 1=some (q 0))/\(J.frozen? ⟨w.heap.size,0,none⟩=false/\J.frozen? ⟨w.heap.size,1,none⟩=false))/\Hid (Below w.heap.size w J)):=u (AP.out.mono (by
    rintro e J ⟨bJ,rS,rfl,-⟩;have cv:=AQ.out.below bJ;exact⟨rS,rfl,yS.out J cv,u cv.ho⟩))
   clear nv h h1 H ab aK aw lX CR hrel rh sF AP AQ my hF ok fit dh sZ iD fF hw qq yS AR;generalize hN td eH=Q at *;go_enter func12,ntmps12;go_wp2_with (first | (go_at_call 35;refine cK.out.mono ?_;rintro e J ⟨rS,rfl,⟨⟨c3,cX⟩,⟨cA,hy⟩⟩,bw⟩) | (go_at_call 34;refine(xl.out _).mono ?_;rintro e w' ⟨rfl,rfl⟩));refine bodyPost_ret (v:=.tuple #[.agg #[.slice none 0 0,q 0],q (Q:Int)]) (by simp[results,results12,go_sem, *]) rfl (wt.out J Q 0 bw.out)
  ·rw[if_neg AR];have vG:hN td eH=0:=by simpa using AR
   obtain⟨ts,t,r4⟩:∃ts t,hC eH=some (ts,t):=by
    cases aa:hC eH with
    | none=>
     have:kq eH [0]=1:=by unfold kq;rw[aa]
     unfold hN at vG;rw[if_pos (by rw[this];decide),this] at vG;cases vG
    | some x=>exact⟨x.1,x.2,rfl⟩
   rw[r4];simp only[];have cK:Hid (ey 35 #[M b,.string eH] (w.alloc (.cells #[.slice none 0 0,q 0] 40)) fun e J=>∃x,e=.returned (.tuple #[M x,q 0])/\(dp J b 0=some (.slice aC c6 bA)/\dp J b 1=some (.slice b6 cj lc)/\dp J b 2=some (.slice bt aX bD)/\dp J b 3=some (q (s.jr.count:Int))/\dp J b 6=some (q s.ck.dS))/\Hid (jC w b #[.slice aC c6 bA,.slice b6 cj lc,.slice bt aX bD,q (s.jr.count:Int),.slice pa pn pc,q (s.last:Int),q s.ck.dS] J/\Ground J/\∃lo hi,uG (fun k=>k<J.heap.size) td s.ck.bY s.ck.dS t lo hi x (.slice aC c6 bA) J)):=u (AP.out.mono (by
    rintro e J ⟨bJ,rS,rfl,aa⟩;obtain⟨atq,t',x,lo,hi,Y,am,_,rfl,aj⟩:=aa vG;rw[r4] at Y;injection Y with Y;injection Y with Y bm;subst Y bm;have cv:=AQ.out.below bJ;have uw:=dh.below cv.ho;have ae:=q_in vG r4 hrel (fit.B ok) (by have:=ok.zN;omega) ok.ya aj (lX.move (fun k hk av=>⟨av,cv.ho.block k hk⟩)) uw;exact⟨x,by rw[vG];rfl,⟨Z cv.bQ (i:=0) rfl,Z cv.bQ (i:=1) rfl,Z cv.bQ (i:=2) rfl,Z cv.bQ (i:=3) rfl,Z cv.bQ (i:=6) rfl⟩,u ⟨cv,uw,lo,hi,ae⟩⟩))
   obtain⟨ko,CS,_,⟨aoE,aoF,aoG,aoH,r7⟩,iu⟩:=PA vG r4;have vH:Hid (∀W,jC w b #[.slice aC c6 bA,.slice b6 cj lc,.slice bt aX bD,q (s.jr.count:Int),.slice pa pn pc,q (s.last:Int),q s.ck.dS] W->(dp W b 0=some (.slice aC c6 bA)/\dp W b 1=some (.slice b6 cj lc)/\dp W b 2=some (.slice bt aX bD)/\dp W b 3=some (q (s.jr.count:Int))/\dp W b 6=some (q s.ck.dS))):=u (fun W cv=>⟨Z cv.bQ (i:=0) rfl,Z cv.bQ (i:=1) rfl,Z cv.bQ (i:=2) rfl,Z cv.bQ (i:=3) rfl,Z cv.bQ (i:=6) rfl⟩)
   have xj:Hid (∀J x,jC w b #[.slice aC c6 bA,.slice b6 cj lc,.slice bt aX bD,q (s.jr.count:Int),.slice pa pn pc,q (s.last:Int),q s.ck.dS] J->(∃lo hi,uG (fun k=>k<J.heap.size) td s.ck.bY s.ck.dS t lo hi x (.slice aC c6 bA) J)->ey 36 #[M x,.slice aC c6 bA,q s.ck.dS] J.drew fun e S=>jC w b #[.slice aC c6 bA,.slice b6 cj lc,.slice bt aX bD,q (s.jr.count:Int),.slice pa pn pc,q (s.last:Int),q s.ck.dS] S/\match oK s.ck.bY s.ck.dS (eM t) t with
     | none=>e=.returned (.tuple #[.slice none 0 0,.bool false])
     | some out=>∃v,e=.returned (.tuple #[v,.bool true])/\fW 0 S v out):=u (fun J x cv ik=>by
    obtain⟨lo,hi,ik⟩:=ik;have vz:Below J.heap.size J J.drew:=⟨rfl,rfl,rfl,ap,fun _ _=>rfl⟩;have XW:=ik.below vz;rw[r7] at XW;have b1:=amP J.drew XW;rw[<-r7] at b1;refine b1.mono ?_;rintro e S ⟨A,hm⟩;refine⟨(cv.below vz).below A,?_⟩;cases xm:oK s.ck.bY s.ck.dS (eM t) t with
    | none=>rw[xm] at hm;exact hm
    | some out=>rw[xm] at hm;obtain⟨v,Y,am⟩:=hm;exact⟨v,Y,am.low bu⟩)
   cases xm:oK s.ck.bY s.ck.dS (eM t) t with
   | none=>
    rw[xm] at xj;have gJ:Hid (∀J x,jC w b #[.slice aC c6 bA,.slice b6 cj lc,.slice bt aX bD,q (s.jr.count:Int),.slice pa pn pc,q (s.last:Int),q s.ck.dS] J->(∃lo hi,uG (fun k=>k<J.heap.size) td s.ck.bY s.ck.dS t lo hi x (.slice aC c6 bA) J)->ey 36 #[M x,.slice aC c6 bA,q s.ck.dS] J.drew fun e S=>e=.returned (.tuple #[.slice none 0 0,.bool false])/\(dp S b 0=some (.slice aC c6 bA)/\dp S b 1=some (.slice b6 cj lc)/\dp S b 2=some (.slice bt aX bD)/\dp S b 3=some (q (s.jr.count:Int))/\dp S b 6=some (q s.ck.dS))/\((dp S w.heap.size 0=some (.slice none 0 0)/\dp S w.heap.size 1=some (q 0))/\(S.frozen? ⟨w.heap.size,0,none⟩=false/\S.frozen? ⟨w.heap.size,1,none⟩=false))/\Hid (Below w.heap.size w S)):=u (fun J x cv ik=>(xj.out J x cv ik).mono (by
     rintro e S ⟨r8,rfl⟩;exact⟨rfl,vH.out S r8,yS.out S r8,u r8.ho⟩))
    clear nv h h1 H ab aK aw lX CR hrel rh sF AP AQ my hF ok fit dh sZ iD fF hw qq yS AR vH xj xm r7 ko CS r4 vG;simp only[];generalize s.ck.dS=r5 at *;go_enter func12,ntmps12;go_upto_region 6 with(first | (go_at_call 35;refine cK.out.mono ?_;rintro e J ⟨x,rfl,⟨a0,bq,a2,a3,a4⟩,jd⟩) | (go_at_call 34;refine(xl.out _).mono ?_;rintro e w' ⟨rfl,rfl⟩));go_region_held3 (fun w'=>w'.cell? ⟨b,0,none⟩=some (.slice aC c6 bA)/\w'.cell? ⟨b,1,none⟩=some (.slice b6 cj lc)/\w'.cell? ⟨b,2,none⟩=some (.slice bt aX bD)/\w'.cell? ⟨b,3,none⟩=some (q (s.jr.count:Int))/\w'.cell? ⟨b,6,none⟩=some (q r5)) (go_keep) (first | (go_at_call 36;refine(gJ.out J x jd.out.1 jd.out.2.2).mono ?_;rintro e S ⟨rfl,⟨hr,cN,bL,fS,jg⟩,⟨⟨c3,cX⟩,⟨cA,hy⟩⟩,bw⟩));all_goals go_wp2_with fail
    all_goals refine bodyPost_ret (v:=.tuple #[.agg #[.slice none 0 0,q 0],q 6]) (by simp[results,results12,go_sem, *]) rfl (wt.out S 6 0 bw.out)
   | some out=>
    rw[xm] at xj;simp only[] at xj ⊢;have gJ:Hid (∀J x,jC w b #[.slice aC c6 bA,.slice b6 cj lc,.slice bt aX bD,q (s.jr.count:Int),.slice pa pn pc,q (s.last:Int),q s.ck.dS] J->(∃lo hi,uG (fun k=>k<J.heap.size) td s.ck.bY s.ck.dS t lo hi x (.slice aC c6 bA) J)->ey 36 #[M x,.slice aC c6 bA,q s.ck.dS] J.drew fun e S=>∃dc on de,e=.returned (.tuple #[.slice dc on de,.bool true])/\(dp S b 0=some (.slice aC c6 bA)/\dp S b 1=some (.slice b6 cj lc)/\dp S b 2=some (.slice bt aX bD)/\dp S b 3=some (q (s.jr.count:Int))/\dp S b 6=some (q s.ck.dS))/\Hid (jC w b #[.slice aC c6 bA,.slice b6 cj lc,.slice bt aX bD,q (s.jr.count:Int),.slice pa pn pc,q (s.last:Int),q s.ck.dS] S/\fW 0 S (.slice dc on de) out)):=u (fun J x cv ik=>(xj.out J x cv ik).mono (by
     rintro e S ⟨r8,v,rfl,ct⟩;obtain⟨dc,on,de,rfl⟩:∃dc on de,v=.slice dc on de:=by obtain⟨bE,C,_⟩:=id ct;obtain⟨a,c,e⟩:=cG C;exact⟨a,_,c,e⟩
     exact⟨dc,on,de,rfl,vH.out S r8,u ⟨r8,ct⟩⟩))
    have lg:Hid (∀W,jC w b #[.slice aC c6 bA,.slice b6 cj lc,.slice bt aX bD,q (s.jr.count:Int),.slice pa pn pc,q (s.last:Int),q s.ck.dS] W->ey 25 #[.agg #[.slice b6 cj lc,.slice bt aX bD,q (s.jr.count:Int)]] W fun e aA=>e=.returned (q (s.jr.count:Int))/\(dp aA b 0=some (.slice aC c6 bA)/\dp aA b 1=some (.slice b6 cj lc)/\dp aA b 2=some (.slice bt aX bD)/\dp aA b 3=some (q (s.jr.count:Int))/\dp aA b 6=some (q s.ck.dS))/\((dp aA w.heap.size 0=some (.slice none 0 0)/\dp aA w.heap.size 1=some (q 0))/\(aA.frozen? ⟨w.heap.size,0,none⟩=false/\aA.frozen? ⟨w.heap.size,1,none⟩=false))/\Hid (jC w b #[.slice aC c6 bA,.slice b6 cj lc,.slice bt aX bD,q (s.jr.count:Int),.slice pa pn pc,q (s.last:Int),q s.ck.dS] aA/\Below W.heap.size W aA)):=u (fun W cv=>(ank b6 bt cj lc aX bD _ W).mono (by
     rintro e aA ⟨rfl,A⟩;have uz:=cv.below A;exact⟨rfl,vH.out aA uz,yS.out aA uz,u ⟨uz,A⟩⟩))
    by_cases PB:60<=s.jr.count
    ·rw[if_pos PB];have aoI:(60:Int)<=(s.jr.count:Int):=r;clear nv h h1 H ab aK aw lX CR hrel rh sF AP AQ my hF ok fit dh sZ iD fF hw qq yS AR vH xj xm r7 ko CS r4 vG;generalize s.ck.dS=r5 at *;go_enter func12,ntmps12;go_upto_region 6 with(first | (go_at_call 35;refine cK.out.mono ?_;rintro e J ⟨x,rfl,⟨a0,bq,a2,a3,a4⟩,jd⟩) | (go_at_call 34;refine(xl.out _).mono ?_;rintro e w' ⟨rfl,rfl⟩));go_region_held3 (fun w'=>w'.cell? ⟨b,0,none⟩=some (.slice aC c6 bA)/\w'.cell? ⟨b,1,none⟩=some (.slice b6 cj lc)/\w'.cell? ⟨b,2,none⟩=some (.slice bt aX bD)/\w'.cell? ⟨b,3,none⟩=some (q (s.jr.count:Int))/\w'.cell? ⟨b,6,none⟩=some (q r5)) (go_keep) (first | (go_at_call 36;refine(gJ.out J x jd.out.1 jd.out.2.2).mono ?_;rintro e S ⟨dc,on,de,rfl,⟨hr,cN,bL,fS,jg⟩,kh⟩))
     all_goals go_wp2_with (go_at_call 25;refine(lg.out S kh.out.1).mono ?_;rintro e aA ⟨rfl,⟨d0,d1,d2,d3,d4⟩,⟨⟨c3,cX⟩,⟨cA,hy⟩⟩,oO⟩)
     all_goals refine bodyPost_ret (v:=.tuple #[.agg #[.slice none 0 0,q 0],q 7]) (by simp[results,results12,go_sem, *]) rfl (wt.out aA 7 0 oO.out.1.ho)
    ·rw[if_neg PB];have aoI:(s.jr.count:Int)<60:=r;have dA : -1000000000000<=s.ck.dS:=by have:=ok.zN;omega
     obtain⟨aoJ,aoK,aoL⟩:=XG (fit.B ok) dA ok.ya (e:=aoE) (wh:=aoF) (g:=aoG) (hv:=aoH) (V:=eM t) (by rw[<-r7];exact ko) (by rw[<-r7];exact CS) iu (by rw[<-r7];exact xm);obtain⟨lH,vu⟩:∃lH,lH=nh cU s.ck.dS (hj (out.map (·.2))) s.jr:=⟨_,rfl⟩;have XX:lH.count=s.jr.count+1:=by rw[vu];rfl
     rw[<-vu]
     have XY:Hid (∀W dc on de,jC w b #[.slice aC c6 bA,.slice b6 cj lc,.slice bt aX bD,q (s.jr.count:Int),.slice pa pn pc,q (s.last:Int),q s.ck.dS] W->fW 0 W (.slice dc on de) out->ey 38 #[.slice dc on de] W fun e bI=>∃uK un vF,e=.returned (.slice uK un vF)/\(dp bI b 0=some (.slice aC c6 bA)/\dp bI b 1=some (.slice b6 cj lc)/\dp bI b 2=some (.slice bt aX bD)/\dp bI b 3=some (q (s.jr.count:Int))/\dp bI b 6=some (q s.ck.dS))/\(¬b=bI.heap.size/\¬bI.heap.size=b)/\((∀aB i,aB<W.heap.size->dp bI aB i=dp W aB i)/\∀aB i,aB<W.heap.size->bI.frozen? ⟨aB,i,none⟩=W.frozen? ⟨aB,i,none⟩)/\Hid (Below W.heap.size W bI/\jC w b #[.slice aC c6 bA,.slice b6 cj lc,.slice bt aX bD,q (s.jr.count:Int),.slice pa pn pc,q (s.last:Int),q s.ck.dS] bI/\fW 0 bI (.slice dc on de) out/\bI.ownsRow 0 84 2 (.slice uK un vF) (hj (out.map (·.2))).length ((hj (out.map (·.2))).flatMap dX))):=u (fun W dc on de cv ct=>(anb _ out 0 W ct r r).mono (by
      rintro e bI ⟨bp,rfl,ag,A⟩;obtain⟨uK,vF,rfl⟩:=cG ag;have qd:=cv.below A;have X:=jq qd.bQ;have nu:=jq qd.up;exact⟨uK,_,vF,rfl,vH.out bI qd,⟨r,r⟩,CP A,u ⟨A,qd,ct.below A,ei bu ag⟩⟩))
     have XZ:Hid (∀W uK un vF dc on de,jC w b #[.slice aC c6 bA,.slice b6 cj lc,.slice bt aX bD,q (s.jr.count:Int),.slice pa pn pc,q (s.last:Int),q s.ck.dS] W->fW 0 W (.slice dc on de) out->W.ownsRow 0 84 2 (.slice uK un vF) (hj (out.map (·.2))).length ((hj (out.map (·.2))).flatMap dX)->ey 37 #[.agg #[.slice b6 cj lc,.slice bt aX bD,q (s.jr.count:Int)],.string cU,q s.ck.dS,.slice uK un vF] W fun e bh=>∃a n k a2 b9 aZ,e=.returned (.agg #[.slice a n k,.slice a2 b9 aZ,q (lH.count:Int)])/\(dp bh b 0=some (.slice aC c6 bA)/\dp bh b 1=some (.slice b6 cj lc)/\dp bh b 2=some (.slice bt aX bD)/\dp bh b 3=some (q (s.jr.count:Int))/\dp bh b 6=some (q s.ck.dS))/\(¬b=bh.heap.size/\¬bh.heap.size=b)/\((∀aB i,aB<W.heap.size->dp bh aB i=dp W aB i)/\∀aB i,aB<W.heap.size->bh.frozen? ⟨aB,i,none⟩=W.frozen? ⟨aB,i,none⟩)/\Hid (Below W.heap.size W bh/\jC w b #[.slice aC c6 bA,.slice b6 cj lc,.slice bt aX bD,q (s.jr.count:Int),.slice pa pn pc,q (s.last:Int),q s.ck.dS] bh/\fW 0 bh (.slice dc on de) out/\fB (db (eT F c 1) w) bh (.slice a n k) lH.log/\fB (db (eT F c 1) w) bh (.slice a2 b9 aZ) lH.ng)):=u (fun W uK un vF dc on de cv ct ag=>(anC (F:=eT F c 1) b6 bt cj lc aX bD 0 cU s.ck.dS _ (hj (out.map (·.2))) s.jr W (H.move (fun k hk av=>⟨av,cv.ho.block k hk⟩)) (ab.move (fun k hk av=>⟨av,cv.ho.block k hk⟩)) oE kv wq hu ag r).mono (by
      rintro e bh ⟨a,n,k,a2,b9,aZ,rfl,u1,u2,A⟩;have xn:=cv.below A;have X:=jq xn.bQ;have nu:=jq xn.up;rw[<-vu] at u1 u2;exact⟨a,n,k,a2,b9,aZ,by rw[XX],vH.out bh xn,⟨r,r⟩,CP A,u ⟨A,xn,ct.below A,u1.wide (Xr cv.ho.size),u2.wide (Xr cv.ho.size)⟩⟩))
     have FQ:Hid (∀W aB a n k a2 b9 aZ dc on de,oP w b #[.slice aC c6 bA,.slice b6 cj lc,.slice bt aX bD,q (s.jr.count:Int),.slice pa pn pc,q (s.last:Int),q s.ck.dS] (db (eT F c 1) w) lH (.slice dc on de) out aB a a2 n k b9 aZ W->ey 39 #[.pointer (some ⟨b,4,none⟩),.agg #[.slice a n k,.slice a2 b9 aZ,q (lH.count:Int)],.slice aC c6 bA,q s.ck.dS] W.drew fun e cw=>e=.returned (q (oa (f lH) s.nj:Int))/\(dp cw b 0=some (.slice aC c6 bA)/\dp cw b 1=some (.slice b6 cj lc)/\dp cw b 2=some (.slice bt aX bD)/\dp cw b 3=some (q (s.jr.count:Int))/\dp cw b 6=some (q s.ck.dS))/\(dp cw aB 0=some (.slice a n k)/\dp cw aB 1=some (.slice a2 b9 aZ)/\dp cw aB 2=some (q (lH.count:Int)))/\((dp cw w.heap.size 0=some (.slice none 0 0)/\dp cw w.heap.size 1=some (q 0))/\(cw.frozen? ⟨w.heap.size,0,none⟩=false/\cw.frozen? ⟨w.heap.size,1,none⟩=false))/\Hid (oP w b #[.slice aC c6 bA,.slice b6 cj lc,.slice bt aX bD,q (s.jr.count:Int),.slice pa pn pc,q (s.last:Int),q s.ck.dS] (db (eT F c 1) w) lH (.slice dc on de) out aB a a2 n k b9 aZ cw)):=u (fun W aB a n k a2 b9 aZ dc on de bi=>by
      have vz:Below W.heap.size W W.drew:=⟨rfl,rfl,rfl,ap,fun _ _=>rfl⟩;have CT:=bi.below vz;have k7:=CT.st.ho;refine(anh (f lH) s.nj b 4 (.slice pa pn pc) a a2 aC n k b9 aZ c6 bA (lH.count:Int) s.ck.dS W.drew (Z CT.st.bQ (i:=4) rfl) (jq CT.st.bQ) (ee aK.1 k7) mn (fun p aj aU qU=>hF p aj aU a a2 aC n k b9 aZ c6 bA lH (Below.fK k7 qU) (CT.log.below qU).inside (CT.Py.below qU).inside ?_ ⟨td,ts,t,out,hrel,vG,r4,xm,r,hw,vu⟩)).mono ?_
      ·exact((lX.move (F':=eT F c 0) (fun k hk av=>⟨av,k7.block k hk⟩)).move (F':=eT F c 0) (fun k hk av=>⟨av,qU.block k hk⟩)).inside
      ·rintro e cw ⟨rfl,A⟩;have cE:=CT.below A;exact⟨rfl,vH.out cw cE.st,⟨Z cE.at_ (i:=0) rfl,Z cE.at_ (i:=1) rfl,Z cE.at_ (i:=2) rfl⟩,yS.out cw cE.st,u cE⟩)
     have PC:Hid (∀W aB a n k a2 b9 aZ dc on de,oP w b #[.slice aC c6 bA,.slice b6 cj lc,.slice bt aX bD,q (s.jr.count:Int),.slice pa pn pc,q (s.last:Int),q s.ck.dS] (db (eT F c 1) w) lH (.slice dc on de) out aB a a2 n k b9 aZ W->(dp W b 0=some (.slice aC c6 bA)/\dp W b 1=some (.slice b6 cj lc)/\dp W b 2=some (.slice bt aX bD)/\dp W b 3=some (q (s.jr.count:Int))/\dp W b 6=some (q s.ck.dS))/\(dp W aB 0=some (.slice a n k)/\dp W aB 1=some (.slice a2 b9 aZ)/\dp W aB 2=some (q (lH.count:Int)))):=u (fun W aB a n k a2 b9 aZ dc on de bi=>⟨vH.out W bi.st,⟨Z bi.at_ (i:=0) rfl,Z bi.at_ (i:=1) rfl,Z bi.at_ (i:=2) rfl⟩⟩)
     have Av:Hid (∀W aB a n k a2 b9 aZ dc on de,oP w b #[.slice aC c6 bA,.slice b6 cj lc,.slice bt aX bD,q (s.jr.count:Int),.slice pa pn pc,q (s.last:Int),q s.ck.dS] (db (eT F c 1) w) lH (.slice dc on de) out aB a a2 n k b9 aZ W->(W.frozen? ⟨b,1,none⟩=false/\W.frozen? ⟨b,2,none⟩=false/\W.frozen? ⟨b,3,none⟩=false)/\(¬b=w.heap.size/\¬w.heap.size=b)):=u (fun W aB a n k a2 b9 aZ dc on de bi=>⟨⟨aQ bi.st.bQ,aQ bi.st.bQ,aQ bi.st.bQ⟩,⟨r,r⟩⟩)
     have nC:Hid (∀W aB a n k a2 b9 aZ dc on de,oP w b #[.slice aC c6 bA,.slice b6 cj lc,.slice bt aX bD,q (s.jr.count:Int),.slice pa pn pc,q (s.last:Int),q s.ck.dS] (db (eT F c 1) w) lH (.slice dc on de) out aB a a2 n k b9 aZ W->JA F w b ⟨0,0,out,{s with jr:=lH}⟩ (.returned (.tuple #[.agg #[.slice dc on de,q 0],q 0])) (((((W.setCell ⟨b,1,none⟩ (.slice a n k)).setCell ⟨b,2,none⟩ (.slice a2 b9 aZ)).setCell ⟨b,3,none⟩ (q (lH.count:Int))).setCell ⟨w.heap.size,0,none⟩ (.slice dc on de)).setCell ⟨w.heap.size,1,none⟩ (q 0))):=u (fun W aB a n k a2 b9 aZ dc on de bi=>by
      obtain⟨bz,cz⟩:=aow b5 aw h1 aK bi;exact⟨dc,on,de,rfl,bz,cz⟩)
     have X0:Hid (∀W,jC w b #[.slice aC c6 bA,.slice b6 cj lc,.slice bt aX bD,q (s.jr.count:Int),.slice pa pn pc,q (s.last:Int),q s.ck.dS] W->w.heap.size<=W.heap.size):=u (fun W cv=>cv.ho.size);generalize X1:oa (f lH) s.nj=F5 at *;have atr:=u X1;have ats:=u bc;clear nv h h1 H ab aK aw lX CR hrel rh sF AP AQ my hF ok fit dh sZ iD fF hw qq yS AR xj xm r7 ko CS r4 vG X1 vu XX aoJ aoK aoL dA PB oE kv wq mn b5 aoD bc vH;generalize s.ck.dS=r5 at *;generalize X2:lH.count=aoM at *;have aoN:=u X2;clear X2;go_enter func12,ntmps12;go_upto_region 6 with(first | (go_at_call 35;refine cK.out.mono ?_;rintro e J ⟨x,rfl,⟨a0,bq,a2,a3,a4⟩,jd⟩) | (go_at_call 34;refine(xl.out _).mono ?_;rintro e w' ⟨rfl,rfl⟩))
     go_region_held3 (fun w'=>w'.cell? ⟨b,0,none⟩=some (.slice aC c6 bA)/\w'.cell? ⟨b,1,none⟩=some (.slice b6 cj lc)/\w'.cell? ⟨b,2,none⟩=some (.slice bt aX bD)/\w'.cell? ⟨b,3,none⟩=some (q (s.jr.count:Int))/\w'.cell? ⟨b,6,none⟩=some (q r5)) (go_keep) (first | (go_at_call 36;refine(gJ.out J x jd.out.1 jd.out.2.2).mono ?_;rintro e S ⟨dc,on,de,rfl,⟨hr,cN,bL,fS,jg⟩,kh⟩));go_upto_region 11 with(go_at_call 25;refine(lg.out S kh.out.1).mono ?_;rintro e aA ⟨rfl,⟨d0,d1,d2,d3,d4⟩,-,oO⟩);have X3:Hid (fW 0 aA (.slice dc on de) out):=u (kh.out.2.below oO.out.2);have JB:Hid (jC w b #[.slice aC c6 bA,.slice b6 cj lc,.slice bt aX bD,q (s.jr.count:Int),.slice pa pn pc,q (s.last:Int),q r5] aA):=u oO.out.1
     have F6:Hid (jC w b #[.slice aC c6 bA,.slice b6 cj lc,.slice bt aX bD,q (s.jr.count:Int),.slice pa pn pc,q (s.last:Int),q r5] aA.drew/\fW 0 aA.drew (.slice dc on de) out):=u ⟨JB.out.below ⟨rfl,rfl,rfl,ap,fun _ _=>rfl⟩,X3.out.below ⟨rfl,rfl,rfl,ap,fun _ _=>rfl⟩⟩;have sA:Hid (∀W o,jC w b #[.slice aC c6 bA,.slice b6 cj lc,.slice bt aX bD,q (s.jr.count:Int),.slice pa pn pc,q (s.last:Int),q r5] W/\fW 0 W (.slice dc on de) out->jC w b #[.slice aC c6 bA,.slice b6 cj lc,.slice bt aX bD,q (s.jr.count:Int),.slice pa pn pc,q (s.last:Int),q r5] (W.alloc o)/\fW 0 (W.alloc o) (.slice dc on de) out):=u (fun W o h=>⟨h.1.below ((Below.refl _ _).alloc ap o),h.2.below ((Below.refl _ _).alloc ap o)⟩);obtain⟨X4,X5⟩:¬b=aA.heap.size/\¬aA.heap.size=b:=by have:=jq JB.out.bQ;exact⟨r,r⟩
     clear a0 bq a2 a3 a4 hr cN bL fS jg;go_cut [12] (fun F1 wc=>∃aB a n k a2 b9 aZ,F1=M aB/\Hid (oP w b #[.slice aC c6 bA,.slice b6 cj lc,.slice bt aX bD,q (s.jr.count:Int),.slice pa pn pc,q (s.last:Int),q r5] (db (eT F c 1) w) lH (.slice dc on de) out aB a a2 n k b9 aZ wc));case first=>
      go_region_held3 (fun w'=>w'.cell? ⟨b,0,none⟩=some (.slice aC c6 bA)/\w'.cell? ⟨b,1,none⟩=some (.slice b6 cj lc)/\w'.cell? ⟨b,2,none⟩=some (.slice bt aX bD)/\w'.cell? ⟨b,3,none⟩=some (q (s.jr.count:Int))/\w'.cell? ⟨b,6,none⟩=some (q r5)) (go_keep) (first
       | (go_at_call 37;refine(XZ.out _ _ _ _ dc on de (by first | exact uL.out.2.1 | exact(sA.out _ _ ⟨uL.out.2.1,uL.out.2.2.1⟩).1) (by first | exact uL.out.2.2.1 | exact(sA.out _ _ ⟨uL.out.2.1,uL.out.2.2.1⟩).2) (by first | exact uL.out.2.2.2 | exact uL.out.2.2.2.alloc _)).mono ?_;rintro e bh ⟨a,n,k,a2,b9,aZ,rfl,⟨f0,f1,f2,f3,f4⟩,⟨f5,f6⟩,⟨f7,f8⟩,ql⟩;have JC:Below bI.heap.size bI bh:=(by first | exact ql.out.1 | exact Below.CQ ql.out.1);obtain⟨g7,g8⟩:=CP (Below.fK uL.out.1 JC);replace JC:=u JC)
       | (go_at_call 38;refine(XY.out _ dc on de (by first | exact F6.out.1 | exact(sA.out _ _ F6.out).1) (by first | exact F6.out.2 | exact(sA.out _ _ F6.out).2)).mono ?_;rintro e bI ⟨uK,un,vF,rfl,⟨c7,Y,am,bm,hq⟩,⟨ol,s8⟩,⟨wj,sg⟩,uL⟩))
      all_goals
       clear c7 Y am bm hq ol s8 wj sg f0 f1 f2 f3 f4 f5 f6 f7 f8 g7 g8 X4 X5 d0 d1 d2 d3 d4;go_wp2_with fail;go_meet;case rel=>
        have wq:=aoN.out;subst wq;first
         | exact⟨_,_,_,_,_,_,_,rfl,u (oP.laid ql.out.2.1 ql.out.2.2.2.1 ql.out.2.2.2.2 ql.out.2.2.1)⟩
         | exact⟨_,_,_,_,_,_,_,rfl,u (oP.yP ql.out.2.1 (Below.a8 ql.out.1 (l8 rfl)) (X0.out _ uL.out.2.1) ql.out.2.2.2.1 ql.out.2.2.2.2 ql.out.2.2.1)⟩
         | exact⟨_,_,_,_,_,_,_,rfl,u (oP.yP ql.out.2.1 (Below.a8 (Below.fK uL.out.1 JC.out) (l8 rfl)) (X0.out _ JB.out) ql.out.2.2.2.1 ql.out.2.2.2.2 ql.out.2.2.1)⟩
     case rest=>
      obtain⟨aB,a,n,k,a2,b9,aZ,rfl,bi⟩:=hcut;obtain⟨⟨u0,u1,u2,u3,u4⟩,⟨v0,v1,v2⟩⟩:=PC.out wc aB a n k a2 b9 aZ dc on de bi.out;clear XY XZ F6 sA JB X3 X4 X5 d0 d1 d2 d3 d4 jd kh oO cK gJ lg xl;go_upto_region 12 with fail;go_region_held3 (fun w'=>w'.cell? ⟨b,0,none⟩=some (.slice aC c6 bA)/\w'.cell? ⟨b,1,none⟩=some (.slice b6 cj lc)/\w'.cell? ⟨b,2,none⟩=some (.slice bt aX bD)/\w'.cell? ⟨b,3,none⟩=some (q (s.jr.count:Int))/\w'.cell? ⟨b,6,none⟩=some (q r5)/\w'.cell? ⟨aB,0,none⟩=some (.slice a n k)/\w'.cell? ⟨aB,1,none⟩=some (.slice a2 b9 aZ)/\w'.cell? ⟨aB,2,none⟩=some (q (aoM:Int))) (go_keep) (first | (go_at_call 39;refine(FQ.out wc aB a n k a2 b9 aZ dc on de bi.out).mono ?_;rintro e cw ⟨rfl,⟨c7,Y,am,bm,hq⟩,⟨ol,s8,wj⟩,⟨⟨c3,cX⟩,⟨cA,hy⟩⟩,p6⟩));by_cases JD:F5=0
      ·subst JD;obtain⟨⟨pM,h0,gR⟩,⟨lA,B6⟩⟩:=Av.out cw aB a n k a2 b9 aZ dc on de p6.out;have yR:=u (nC.out cw aB a n k a2 b9 aZ dc on de p6.out);clear u0 u1 u2 u3 u4 v0 v1 v2 FQ PC Av nC wt;go_wp2_with fail;refine bodyPost_ret (v:=.tuple #[.agg #[.slice dc on de,q 0],q 0]) (by simp[results,results12,go_sem, *]) rfl ?_;first | exact yR.out | (rw[if_neg (fun h=>h rfl)];exact yR.out)
      ·have rB:¬(F5:Int)=0:=r;have att:((F5:Int)==0)=false:=by rw[cV];exact rB
       have yR:=u (wt.out cw 10 F5 p6.out.st.ho);clear u0 u1 u2 u3 u4 v0 v1 v2 FQ PC Av nC wt;go_wp2_with fail;refine bodyPost_ret (v:=.tuple #[.agg #[.slice none 0 0,q (F5:Int)],q 10]) (by simp[results,results12,go_sem, *]) rfl ?_;first | exact yR.out | (rw[if_pos JD];exact yR.out)
def aqU:(prog.info? 97).map (fun i=>(i.zero,i.size,i.bytes))=some (some (.agg #[q 0,q 0,q 0,q 0,.pointer none]),5,40):=ax
def auz(h:w.ownsRow base 97 5 v l.length (l.flatMap xi))(A:base<=w.heap.size)(X:l.length<=1000)(p:n9):∃a n c w',(∀ty,(Builtin.append_ #[59,59] ty #[v,.slice (some ⟨w.heap.size,0,none⟩) 1 1]).run prog (w.alloc (.cells #[q (p.num:Int),q (p.since:Int),q (p.form:Int),q p.span,M p.x] 97))=.ok (.slice a n c) w')/\w'.ownsRow base 97 5 (.slice a n c) (l++[p]).length ((l++[p]).flatMap xi)/\(w.alloc (.cells #[q (p.num:Int),q (p.since:Int),q (p.form:Int),q p.span,M p.x] 97)).grownBy w' v.ownBlock/\((Value.slice a n c).ownBlock=v.ownBlock\/(Value.slice a n c).ownBlock=some (w.heap.size+1)):=by
 obtain⟨cF,w',ag,an,R,fq⟩:=ug underlying59 aqU rfl K K h #[q (p.num:Int),q (p.since:Int),q (p.form:Int),q p.span,M p.x] rfl (by simp[Value.oneCell']) r A;obtain⟨a,c,rfl⟩:=cG an;refine⟨a,_,c,w',ag,?_,R,fq⟩;rw[cu,List.flatMap_append];simpa [xi] using an
def h2.put{x y z aq e j1 yQ CO iA bo:Value}{g:hG}(h:h2 F w b ⟨x,y,z,aq,e⟩ g)(OK:∀aE,w.heap[b]?=some (.cells #[aE,x,y,z,aq,e,q g.dS] 63 (0,0))->jx.heap[b]?=some (.cells #[aE,j1,yQ,CO,iA,bo,q g.dS] 63 (0,0)))(hk:∀k,k<w.heap.size->F k->k≠b->jx.heap[k]?=w.heap[k]?):h2 F jx b ⟨j1,yQ,CO,iA,bo⟩ g:=by
 obtain⟨c,aE,bs,aw,h1,H,ab⟩:=h;refine⟨c,aE,bs,aw,⟨h1.1,OK aE h1.2⟩,?_,fun i a kH=>?_⟩
 ·refine H.a8 (fun k cs _ e gi hF=>⟨hF,hk k gi hF.1 ?_⟩);rintro rfl;rw[h1.2] at e;injection e with e;injection e with _ e;exact absurd e K
 ·refine(ab i a kH).move (fun k gi hF=>⟨hF,hk k gi hF.1 ?_⟩);rintro rfl;have:=h1.1.2;have:=hF.2;omega
def aqV{c:Nat->Nat}(b5:8<=w.heap.size)(aw:∀k,F k->oN w k/\8<=k){nj:List n9}{last:Nat}(h1:h2 (eT F c 0) jx b ⟨.slice b6 cj lc,.slice bt aX bD,q (s.jr.count:Int),.slice pa pn pc,q (last:Int)⟩ s.ck)(H:fB (eT F c 1) jx (.slice b6 cj lc) s.jr.log)(ab:fB (eT F c 1) jx (.slice bt aX bD) s.jr.ng)(aK:eg (db (eT F c 2) w) jx 97 5 (.slice pa pn pc) nj.length (nj.flatMap xi))(hs:da F w jx):vE F w b {s with nj:=nj,last:=last} jx:=by
 have fH:∀i U,eT F c i U->U<w.heap.size:=fun i U ae=>by obtain⟨⟨cs,t,m,bo,_⟩,_⟩:=aw U ae.1;exact jq bo
 refine⟨fun U=>db F w U/\oN jx U,⟨fun U ae=>⟨ae.2,?_⟩,va c w 2,b6,bt,pa,cj,lc,aX,bD,pn,pc,?_,?_,?_,?_⟩,fun U ae=>?_,hs⟩
 ·rcases ae.1 with⟨_,h⟩ | h
  ·exact(aw U h).2
  ·omega
 ·refine h1.jW.move (dj.to fun U _ ae=>?_);have jz:=fH _ U ae.1;exact⟨⟨db.fH jz ae.1.1,ae.2⟩,by unfold va;rw[if_pos jz];exact ae.1.2⟩
 ·refine H.jW.move (dj.to fun U _ ae=>?_);have jz:=fH _ U ae.1;exact⟨⟨db.fH jz ae.1.1,ae.2⟩,by unfold va;rw[if_pos jz];exact ae.1.2⟩
 ·refine ab.jW.move (dj.to fun U _ ae=>?_);have jz:=fH _ U ae.1;exact⟨⟨db.fH jz ae.1.1,ae.2⟩,by unfold va;rw[if_pos jz];exact ae.1.2⟩
 ·exact(aK.jW (by simp[oM])).move (dj.to fun U _ ae=>⟨⟨(zL ae.1).1,ae.2⟩,(zL ae.1).2⟩)
 ·rcases ae.1 with⟨_,h⟩ | h
  ·exact .inl h
  ·exact .inr h
def are(p:n9)(m:Int)(bB:Nat)(w:World)(bw:dp w bB 0=some (q m))(X:bB<w.heap.size):ey 75 #[Xu p,M bB] w (gU w (.bool ((p.num:Int)==m))):=by have cy:¬bB=w.heap.size:=r;unfold Xu;go_enter func75,ntmps75;go_wp2;go_ret;exact⟨rfl,cT⟩
def YJ(l:List n9)(m:Int)(j:Nat):Prop:=∀i (_:i<j) (h:i<l.length),(l[i].num:Int)≠m
def xp(l:List n9)(m:Int):Option Nat:=l.findIdx? fun p=>(p.num:Int)==m
def arf(h:YJ l m l.length):xp l m=none:=by unfold xp;rw[List.findIdx?_eq_none_iff];intro C ag;obtain⟨i,hi,rfl⟩:=List.mem_iff_getElem.1 ag;rw[cV];exact h i hi hi
def atA{j:Nat}(h:YJ l m j)(aS:j<l.length)(e:(l[j].num:Int)=m):xp l m=some j:=by unfold xp;rw[List.findIdx?_eq_some_iff_getElem];refine⟨aS,beq_iff_eq.2 e,fun i hi A=>?_⟩;exact h i hi r (beq_iff_eq.1 A)
def atJ(l:List n9)(m:Int)(bB:Nat)(a:Option Addr)(af:Nat)(w:World)(bw:dp w bB 0=some (q m))(X:bB<w.heap.size)(an:w.ownsRow 0 97 5 (.slice a l.length af) l.length (l.flatMap xi))(ar:l.length<=1000):ey 74 #[.slice a l.length af,.func (.func 75) #[] #[M bB]] w (gU w (q (nV (xp l m)))):=by
 have eX:∀args w,(callFunc 75 args).run prog w=.ok (.enter 75 args) w:=enters_of func75 ax rfl;have e9:=u an;clear an;go_enter func74,ntmps74;go_wp2_with fail;go_loopg [5,8] (l.length+1) (fun U _ i wr=>∃j:Nat,j<=l.length/\i=q (j:Int)/\Hid (YJ l m j)/\eB w wr/\l.length-j<U);case atStart=>exact⟨0,bu,rfl,u (fun i hi _=>absurd hi (fp _)),Below.refl _ _,r⟩
 case round=>
  obtain⟨j,aS,rfl,b8,A,ae⟩:=hrel;by_cases aD:j<l.length
  ·have cL:(j:Int)<(l.length:Int):=r;obtain⟨g,rfl,ef,d0,d1,d2,d3,d4⟩:=anf e9.d j aD;have bk:=dr A d0 ef;have c1:=dr A d1 ef;have c2:=dr A d2 ef;have dZ:=dr A d3 ef;have gp:=dr A d4 ef;have dT:=u (dr A bw X);have o9:bB<wr.heap.size:=by have:=A.size;omega
   have fr:IntKind.i64.wrap ((j:Int)+1)=(j:Int)+1:=mC;have ch:=u ae;clear d0 d1 d2 d3 d4 ae;have bn:Hid (∀b,((l[j].num:Int)==m)=b->(b=true->xp l m=some j)/\(b=false->YJ l m (j+1))):=u (fun b bg=>⟨fun e=>atA b8.d aD (beq_iff_eq.1 (bg.trans e)),fun e a ak h=>by
     by_cases Y:a=j
     ·subst Y;exact cV.1 (bg.trans e)
     ·exact b8.d a r h⟩)
   have aN:=u (are l[j] m bB wr dT.d o9);unfold Xu at aN;generalize ((l[j].num:Int)==m)=hb at aN bn;have SZ:=bn.d hb rfl;have eS:=u SZ;clear bn SZ b8;cases hb
   ·have bj:=u (eS.d.2 rfl);clear eS;go_wp2_with (go_at_fn 75;refine aN.d.mono ?_;rintro e S ⟨rfl,ah⟩);have ae:=ch.d;go_roundg (l.length-j);case measure=>omega
    case rel=>exact⟨j+1,r,by go_num,bj,A.trans (ah.mono A.size),r⟩
   ·have bj:=u (eS.d.1 rfl);clear eS;go_wp2_with (go_at_fn 75;refine aN.d.mono ?_;rintro e S ⟨rfl,ah⟩);go_ret;exact⟨by rw[bj.d];rfl,A.trans (ah.mono A.size)⟩
  ·have eZ:j=l.length:=r;subst eZ;have cL:(l.length:Int)<=(l.length:Int):=r;have bj:=u (arf b8.d);clear b8;go_wp2_with fail;go_ret;exact⟨by rw[bj.d];rfl,A⟩
def atK{P:Program}(w:World)(t e ty:TypeId)(z:Value)(zs:List Value)(au:P.underlying t=some (.slice e))(hv:∀w,(zeroValue e).run P w=.ok z w)(h1:∀v∈zs,v.oneCell'=true)(aY:(Builtin.zeroCells z.cells 1).toList=zs)(b o c:Nat)(ai:∀j,j<zs.length->(dp w b (o+j)).isSome=true)(av:∀j,j<zs.length->w.frozen? ⟨b,o+j,none⟩=false):(Builtin.clear_ #[t] ty #[.slice (some ⟨b,o,none⟩) 1 c]).run P w=.ok (.tuple #[]) (w.setCells b o zs):=by have c4:=run_storeCells_cells (P:=P) b o zs 0 w (by simpa using ai) (by simpa using av) h1;simp only[Nat.add_zero] at c4;simp[Builtin.clear_,run_underlying au,hv,aY,c4]
def PI:List Value:=[q 0,q 0,q 0,q 0,.pointer none]
def atL:(Builtin.zeroCells (Value.agg #[q 0,q 0,q 0,q 0,.pointer none]).cells 1).toList=PI:=ax
def atM{ay:Array Value}{af:Nat}{xs:List Value}{c1 c2:Array Value}(hi:i<n)(ar:n<=af)(hs:ay.size=af*5)(aa:ay.toList.take (n*5)=xs)(h1:c1.toList=ay.toList.take (i*5)++xs.drop (i*5+5)++ay.toList.drop (i*5+(xs.drop (i*5+5)).length))(zs:List Value)(H:c2.toList=c1.toList.take ((n-1)*5)++zs++c1.toList.drop ((n-1)*5+5)):c2.toList.take ((n-1)*5)=xs.take (i*5)++xs.drop (i*5+5):=by
 have sq:ay.toList.length=af*5:=by rw[ax7,hs]
 have BG:xs.length=n*5:=by rw[<-aa,List.length_take];omega
 have Y:ay.toList.take (i*5)=xs.take (i*5):=by rw[<-aa,List.take_take];congr 1;omega
 have l1:(xs.take (i*5)++xs.drop (i*5+5)).length=(n-1)*5:=by rw[cu,List.length_take,List.length_drop];omega
 have am:c1.toList.take ((n-1)*5)=xs.take (i*5)++xs.drop (i*5+5):=by rw[h1,Y,List.take_append_of_le_length r,List.take_of_length_le r]
 rw[H,am,List.append_assoc,List.take_append_of_le_length r,List.take_of_length_le r]
def atO(lo g af n i:Nat)(xs:List Value)(w:World)(an:w.ownsRow lo 97 5 (.slice (some ⟨g,0,none⟩) n af) n xs)(D3:∀bp∈xs,bp.oneCell'=true)(hi:i<n)(ar:n<=1000):ey 76 #[.slice (some ⟨g,0,none⟩) n af,q (i:Int),q ((i:Int)+1)] w fun e w'=>e=.returned (.slice (some ⟨g,0,none⟩) (n-1) af)/\w'.ownsRow lo 97 5 (.slice (some ⟨g,0,none⟩) (n-1) af) (n-1) (xs.take (i*5)++xs.drop (i*5+5))/\w.grownBy w' (some g):=by
 obtain⟨i0,nM,gj,gx,cd⟩:=info_parts aqU;obtain⟨BG,ej⟩:=an;rcases ej with⟨e,_⟩ | ⟨dM,cJ,ay,e,eI,ed,SR,kk,j2,BH⟩
 ·cases e
 obtain⟨rfl,rfl⟩:g=dM/\af=cJ:=by injection e with Y am bm;injection Y with Y;injection Y with Y;exact⟨Y,bm⟩
 clear e;unfold maxLen at kk;generalize BI:xs.drop (i*5+5)=news;have b7:news.length=(n-(i+1))*5:=by rw[<-BI,List.length_drop];omega
 have k7:w.drew.heap[g]?=some (.cells ay 97 (0,0)):=ed;obtain⟨zI,bJ,dV,nU⟩:=Hh g 97 news (i*5) w.drew ay k7 (by rw[b7,j2];omega);have iV:∀(j:Nat) bp,ay.toList[j]?=some bp->w.drew.cell? ⟨g,j,none⟩=some bp:=by intro j bp hu;rw[Array.getElem?_toList] at hu;simp[World.cell?,k7,hu]
 obtain⟨aB,cr,BJ⟩:∃aB:Addr,(if af=i+1 then some (⟨g,0,none⟩:Addr) else some ⟨g,(i+1)*5,none⟩)=some aB/\Hid (∀t bp,news[t]?=some bp->w.drew.cell? (aB.add t)=some bp):=by
  by_cases h:af=i+1
  ·refine⟨⟨g,0,none⟩,by simp[h],fun t bp hu=>?_⟩;have aw:news.length=0:=by rw[b7];omega
   rw[List.length_eq_zero_iff.1 aw] at hu;simp at hu
  ·refine⟨⟨g,(i+1)*5,none⟩,by simp[h],fun t bp hu=>?_⟩;have au:t<news.length:=(List.getElem?_eq_some_iff.1 hu).1;rw[Addr.add_lit];refine iV _ _ ?_;rw[<-BI,List.getElem?_drop,<-BH,List.getElem?_take,if_pos r] at hu;rw[<-hu];congr 1;omega
 have s1:Hid (news.length=(n-(i+1))*5):=b7;have s2:Hid (∀bp∈news,bp.oneCell'=true):=fun bp hu=>D3 bp (by rw[<-BI] at hu;exact List.mem_of_mem_drop hu);have dd:Hid (∀t,t<news.length->(w.drew.cell? ⟨g,0+i*5+t,none⟩).isSome=true/\w.drew.frozen? ⟨g,0+i*5+t,none⟩=false):=by intro t au;rw[b7] at au;refine⟨?_,by simp[World.frozen?,k7]⟩;rw[iV (0+i*5+t) _ (fC (by rw[ax7,j2];omega))];rfl
 obtain⟨ih,iv⟩:∃ih,ih=w.drew.setCells g (0+i*5) news:=⟨_,rfl⟩;have c7:0+i*5=i*5:=r;rw[c7] at iv;have fN:ih.heap[g]?=some (.cells zI 97 (0,0)):=by rw[iv];exact bJ
 have pN:∀ty,(Builtin.clear_ #[59] ty #[.slice (some ⟨g,(n-1)*5,none⟩) 1 (af-(n-1))]).run prog ih=.ok (.tuple #[]) (ih.setCells g ((n-1)*5) PI):=fun ty=>atK ih _ _ ty _ PI underlying59 Tryz.zeroValue97 (by simp[PI,Value.oneCell']) atL g ((n-1)*5) _ (fun j aS=>by have lv:j<5:=aS;simp[World.cell?,fN,Array.getElem?_eq_getElem (show(n-1)*5+j<zI.size by rw[dV,j2];omega)]) (fun j aS=>by simp[World.frozen?,fN]);obtain⟨Hk,ah,ep,nN⟩:=Hh g 97 PI ((n-1)*5) ih zI fN (by rw[dV,j2];show _+5<=_;omega);have DR:Hid (w.grownBy (ih.setCells g ((n-1)*5) PI) (some g)):=u (by
  obtain⟨bq,a2,a3,a4⟩:=Hi g news (i*5) w.drew;obtain⟨cN,bL,fS,jg⟩:=Hi g PI ((n-1)*5) ih;rw[<-iv] at bq a2 a3 a4;refine⟨cN.trans bq,bL.trans a2,fS.trans a3,Nat.le_of_eq (jg.trans a4).symm,fun k _ hk=>?_⟩;have D4:k≠g:=fun e=>hk (by rw[e]);rw[Hg g _ _ _ k D4,iv,Hg g _ _ _ k D4];rfl)
 have D5:Hid ((ih.setCells g ((n-1)*5) PI).ownsRow lo 97 5 (.slice (some ⟨g,0,none⟩) (n-1) af) (n-1) (xs.take (i*5)++xs.drop (i*5+5))):=u (by
  refine⟨?_,.inr ⟨g,af,Hk,rfl,eI,ah,r,by unfold maxLen;omega,by rw[ep,dV,j2],?_⟩⟩
  ·rw[cu,List.length_take,List.length_drop];omega
  ·exact atM hi SR j2 BH (by rw[nU,BI]) _ nN)
 rw[BI] at D5;have aO:Hid (ih=w.drew.setCells g (0+i*5) news):=u (by rw[c7];exact iv);have fM:(i:Int)+1<=(n:Int):=r;have arR:(n:Int)<=(af:Int):=r;have aez:i<=af:=r;have aeA:(0:Int)<=(i:Int)+1:=r;have aeB:i+1<=af:=r;have cy:((i:Int)==(i:Int)+1)=false:=by rw[cV];omega
 clear iv fN bJ ah nU nN dV ep ed k7 iV BH BG D3 j2 b7 BI c7;go_enter func76,ntmps76;go_wp2_with fail;go_region_law (refine step_append_room rfl (.tmp 22) (.tmp 25) 59 rfl 97 i0 5 underlying59 nM gx g 0 i af (by simp[Act.eval,Act.put]) aB (n-(i+1)) (af-(i+1)) news (by simp[Act.eval,Act.put]) s1.d BJ.d s2.d r dd.d ?_;rw[<-aO.d]);rw[show i+(n-(i+1))=n-1 from r];have LD:¬af=n-1:=r;have dA:n-(n-1)=1:=r;have arS:n-1<=af:=r;have zJ:((n-1:Nat):Int)<=(n:Int):=r;have arT:(0:Int)<=((n-1:Nat):Int):=r;clear cr aeB aez fM aeA cy;go_wp2_with fail;go_ret;exact⟨rfl,D5.d,DR.d⟩
def auI(h:nH F w b s)(b5:8<=w.heap.size)(X:s.nj.length<=100)(wx:s.last<=1000000)(since form:Nat)(span:Int)(x:Nat):ey 43 #[.pointer (some ⟨b,4,none⟩),.agg #[q (form:Int),q span,M x],q (since:Int)] w fun e w'=>e=.returned (q ((s.last+1:Nat):Int))/\(dp w' b 1=dp w b 1/\dp w' b 2=dp w b 2/\dp w' b 3=dp w b 3)/\vE F w b {s with nj:=s.nj++[⟨s.last+1,since,form,span,x⟩],last:=s.last+1} w':=by
 obtain⟨aw,c,b6,bt,pa,cj,lc,aX,bD,pn,pc,h1,H,ab,aK⟩:=id h;obtain⟨aqW,aE,bs,g0,g1,g2,g3⟩:=id h1;have bJ:=g1.lt;have Pz:F b/\c b=0:=g1.1.1;have A7:IntKind.i64.wrap ((s.last:Int)+1)=(s.last:Int)+1:=mC;have iD:Below w.heap.size w (w.alloc (.cells #[q (form:Int),q span,M x] 87)):=cT;have fA:=bH w (.cells #[q (form:Int),q span,M x] 87);generalize DP:w.alloc (.cells #[q (form:Int),q span,M x] 87)=hz at *;have JZ:hz.heap[b]?=some (.cells #[aE,.slice b6 cj lc,.slice bt aX bD,q (s.jr.count:Int),.slice pa pn pc,q (s.last:Int),q s.ck.dS] 63 (0,0)):=Below.a8 iD g1.2
 have YA:(hz.setCell ⟨b,5,none⟩ (q ((s.last:Int)+1))).heap[b]?=some (.cells #[aE,.slice b6 cj lc,.slice bt aX bD,q (s.jr.count:Int),.slice pa pn pc,q ((s.last:Int)+1),q s.ck.dS] 63 (0,0)):=hc (o:=5) JZ (q ((s.last:Int)+1));have aps:=uI (i:=5) (q ((s.last:Int)+1)) JZ fA K;have xE:eg (eT F c 2) hz 97 5 (.slice pa pn pc) s.nj.length (s.nj.flatMap xi):=aK.move (fun k hk av=>⟨av,iD.block k hk⟩);have tS:(Value.slice pa pn pc).ownBlock≠some b:=xE.apart JZ K;have ft:=xE.set tS 5 (q ((s.last:Int)+1));have s1:da (fun U=>U=b\/(Value.slice pa pn pc).ownBlock=some U) w (hz.setCell ⟨b,5,none⟩ (q ((s.last:Int)+1))):=(da.of iD).andThen (da.set b 5 _ (.inl rfl));have fO:dp hz b 5=some (q (s.last:Int)):=Z JZ (i:=5) rfl;have f5:=aQ (i:=5) JZ
 generalize iv:hz.setCell ⟨b,5,none⟩ (q ((s.last:Int)+1))=ih at *;have hq:dp ih b 4=some (.slice pa pn pc):=Z YA (i:=4) rfl;have ol:dp ih b 5=some (q ((s.last:Int)+1)):=Z YA (i:=5) rfl;have dN:dp ih w.heap.size 0=some (q (form:Int)):=Z aps (i:=0) rfl;have bz:dp ih w.heap.size 1=some (q span):=Z aps (i:=1) rfl;have cz:dp ih w.heap.size 2=some (M x):=Z aps (i:=2) rfl;have b3:=s1.size;obtain⟨hl,e2,iL,bh,p1,p2,fw,pf⟩:=auz (w:=ih.drew) ft.1.drew bu r ⟨s.last+1,since,form,span,x⟩;have bb:ih.drew.heap.size=ih.heap.size:=rfl;simp only[bb,show((s.last+1:Nat):Int)=(s.last:Int)+1 from r] at p1 p2 fw pf
 have s2:da (fun U=>U=b\/(Value.slice pa pn pc).ownBlock=some U) ih bh:=(da.of (show Below ih.heap.size ih (ih.drew.alloc _) from(show Below ih.heap.size ih ih.drew from⟨rfl,rfl,rfl,ap,fun _ _=>rfl⟩).alloc ap _)).andThen (da.grown fw (fun k e=>.inr e));have dd:=s1.andThen (s2.andThen (da.set b 4 (.slice hl e2 iL) (.inl rfl)));have aqX:bh.heap[b]?=ih.heap[b]?:=by have aD:b<ih.heap.size:=jq YA;rw[fw.block b (by rw[cc];exact Nat.lt_succ_of_lt aD) (fun e=>tS e.symm)];exact Below.heap_alloc ih.drew _ b aD
 have ahj:=aqX.trans YA;have Yq:(bh.setCell ⟨b,4,none⟩ (.slice hl e2 iL)).heap[b]?=some (.cells #[aE,.slice b6 cj lc,.slice bt aX bD,q (s.jr.count:Int),.slice hl e2 iL,q ((s.last:Int)+1),q s.ck.dS] 63 (0,0)):=hc (o:=4) ahj (.slice hl e2 iL);have i4:dp bh b 4=some (.slice pa pn pc):=Z ahj (i:=4) rfl;have jM:=aQ (i:=4) ahj;have e8:(bh.setCell ⟨b,4,none⟩ (.slice hl e2 iL)).cell? ⟨b,5,none⟩=some (q ((s.last:Int)+1)):=Z Yq (i:=5) rfl;have OS:Hid (vE F w b {s with nj:=s.nj++[⟨s.last+1,since,form,span,x⟩],last:=s.last+1} (bh.setCell ⟨b,4,none⟩ (.slice hl e2 iL))):=u (by
  have Iy:∀U,U<w.heap.size->U≠b->(Value.slice pa pn pc).ownBlock≠some U->(bh.setCell ⟨b,4,none⟩ (.slice hl e2 iL)).heap[U]?=w.heap[U]?:=fun U ae bM b9=>dd.block U ae (fun e=>e.elim bM b9);have ap6:∀U,(Value.slice pa pn pc).ownBlock=some U->c U=2:=fun U e=>(aK.2 U e).2;refine aqV (c:=c) (pa:=hl) (pn:=e2) (pc:=iL) b5 aw (h1.put (fun as6 e=>?_) (fun k hk av ar=>Iy k hk ar (fun e=>?_))) (H.move (fun k hk av=>⟨av,Iy k hk (fun e=>?_) (fun e=>?_)⟩)) (ab.move (fun k hk av=>⟨av,Iy k hk (fun e=>?_) (fun e=>?_)⟩)) ?_ (dd.mono (fun k _ e=>?_))
  ·rw[g1.2] at e;injection e with e;injection e with e _;obtain rfl:aE=as6:=bx (congrArg (fun a=>a[0]?) e);rw[show((s.last+1:Nat):Int)=(s.last:Int)+1 from r];exact Yq
  ·have:=ap6 k e;have:=av.2;omega
  ·have:=av.2;rw[e,Pz.2] at this;cases this
  ·have:=ap6 k e;have:=av.2;omega
  ·have:=av.2;rw[e,Pz.2] at this;cases this
  ·have:=ap6 k e;have:=av.2;omega
  ·have qA:eg (db (eT F c 2) w) bh 97 5 (.slice hl e2 iL) (s.nj++[(⟨s.last+1,since,form,span,x⟩:n9)]).length ((s.nj++[(⟨s.last+1,since,form,span,x⟩:n9)]).flatMap xi):=⟨by simpa using p2,fun k e=>by
    rcases pf with h | h
    ·rw[h] at e;exact db.any (aK.2 k e)
    ·rw[h] at e;obtain rfl:=bx e;exact db.new r⟩
   exact qA.set (qA.apart ahj K) 4 _
  ·rcases e with e | e
   ·rw[e];exact Pz.1
   ·exact(aK.2 k e).1)
 have kz:b<ih.heap.size:=by have:=World.block_lt_of_cell? ih _ hq;exact this
 have nu:w.heap.size<ih.heap.size:=by have:=World.block_lt_of_cell? ih _ dN;exact this
 have dA:¬b=ih.heap.size:=r;have er:¬w.heap.size=ih.heap.size:=r;have Ag:Hid ((bh.setCell ⟨b,4,none⟩ (.slice hl e2 iL)).cell? ⟨b,1,none⟩=dp w b 1/\(bh.setCell ⟨b,4,none⟩ (.slice hl e2 iL)).cell? ⟨b,2,none⟩=dp w b 2/\(bh.setCell ⟨b,4,none⟩ (.slice hl e2 iL)).cell? ⟨b,3,none⟩=dp w b 3):=u ⟨(Z Yq (i:=1) rfl).trans (g1.cell (i:=1) rfl).symm,(Z Yq (i:=2) rfl).trans (g1.cell (i:=2) rfl).symm,(Z Yq (i:=3) rfl).trans (g1.cell (i:=3) rfl).symm⟩;have qa:=u p1;clear p1 p2 fw pf s1 s2 dd xE ft JZ YA aqX ahj Yq h aw h1 H ab aK g0 g1 g2 g3 fA aps iD bb tS;go_enter func43,ntmps43;go_upto_region 1 with fail;try rw[DP]
 go_upto_region 2 with fail;try rw[iv]
 go_region_law (refine IG rfl (.tmp 18) (.tmp 26) 59 59 rfl (.slice pa pn pc) (.slice (some ⟨ih.heap.size,0,none⟩) 1 1) (by simp[Act.eval]) (by simp[Act.eval]) (qa.d _) ?_);all_goals
  clear qa;go_wp2_with fail;go_ret;exact⟨by simp,Ag.d,OS.d⟩
def atR(l:List n9):∀i,(l.flatMap xi).take (i*5)=(l.take i).flatMap xi:=by
 induction l with
 | nil=>intro i;simp
 | cons a C aH=>
  intro i;cases i with
  | zero=>simp
  | succ i=>rw[List.flatMap_cons,List.take_succ_cons,List.flatMap_cons,<-aH i,show(i+1)*5=(xi a).length+i*5 from by show _=5+_;omega,List.take_length_add_append]
def atS(l:List n9):∀i,(l.flatMap xi).drop (i*5)=(l.drop i).flatMap xi:=by
 induction l with
 | nil=>intro i;simp
 | cons a C aH=>
  intro i;cases i with
  | zero=>simp
  | succ i=>rw[List.flatMap_cons,List.drop_succ_cons,<-aH i,show(i+1)*5=(xi a).length+i*5 from by show _=5+_;omega,List.drop_length_add_append]
def atT(l:List n9)(i:Nat):(l.flatMap xi).take (i*5)++(l.flatMap xi).drop (i*5+5)=(l.eraseIdx i).flatMap xi:=by rw[show i*5+5=(i+1)*5 from r,atR,atS,<-List.flatMap_append,List.eraseIdx_eq_take_drop_succ]
def atU(l:List n9):∀bp∈l.flatMap xi,bp.oneCell'=true:=fun bp hu=>by obtain⟨p,_,h⟩:=List.mem_flatMap.1 hu;unfold xi at h;simp only[List.mem_cons,ax4,or_false] at h;rcases h with rfl | rfl | rfl | rfl | rfl<;>rfl
def Ga(l:List n9)(m:Int):List n9:=match xp l m with
 | none=>l
 | some i=>l.eraseIdx i
def atV(h:nH F w b s)(b5:8<=w.heap.size)(X:s.nj.length<=100)(m:Int):ey 44 #[.pointer (some ⟨b,4,none⟩),q m] w fun e w'=>e=.returned (.bool (xp s.nj m).isSome)/\vE F w b {s with nj:=Ga s.nj m} w':=by
 have cS:=h;obtain⟨aw,c,b6,bt,pa,cj,lc,aX,bD,pn,pc,h1,H,ab,aK⟩:=id h;obtain⟨aqW,aE,bs,g0,g1,g2,g3⟩:=id h1;obtain rfl:pn=s.nj.length:=by obtain⟨nB,e7,e⟩:=aK.shape;injection e
 have Pz:F b/\c b=0:=g1.1.1;have iD:eB w (w.alloc (.cells #[q m] 3)):=cT;have fA:=bH w (.cells #[q m] 3);have atW:w.heap.size<(w.alloc (.cells #[q m] 3)).heap.size:=by simp
 generalize DP:w.alloc (.cells #[q m] 3)=hz at *;have JZ:hz.heap[b]?=some (.cells #[aE,.slice b6 cj lc,.slice bt aX bD,q (s.jr.count:Int),.slice pa s.nj.length pc,q (s.last:Int),q s.ck.dS] 63 (0,0)):=Below.a8 iD g1.2;have xE:eg (eT F c 2) hz 97 5 (.slice pa s.nj.length pc) s.nj.length (s.nj.flatMap xi):=aK.move (fun k hk av=>⟨av,iD.block k hk⟩);have PM:=u (atJ s.nj m w.heap.size pa pc hz (Z fA (i:=0) rfl) atW xE.1 r);have gp:dp hz b 4=some (.slice pa s.nj.length pc):=Z JZ (i:=4) rfl;cases aj:xp s.nj m with
 | none=>rw[aj] at PM;replace PM:Hid (ey 74 #[.slice pa s.nj.length pc,.func (.func 75) #[] #[M w.heap.size]] hz (gU hz (q (-1)))):=PM;have ht:Hid (Ga s.nj m=s.nj):=u (by unfold Ga;rw[aj]);have nv:Hid (∀W,eB w W->vE F w b s W):=u (fun W A=>vE.same cS A);have my:=u iD;clear h cS aw h1 H ab aK g0 g1 g2 g3 xE JZ fA aj iD;go_enter func44,ntmps44;go_wp2_with (first | (go_at_call 74;refine PM.d.mono ?_;rintro e S ⟨rfl,ah⟩));go_ret;exact⟨rfl,by rw[ht.d];exact nv.d _ (Below.fK my.d ah)⟩
 | some i=>
  have hi:i<s.nj.length:=by unfold xp at aj;exact(List.findIdx?_eq_some_iff_getElem.1 aj).1
  rw[aj] at PM;replace PM:Hid (ey 74 #[.slice pa s.nj.length pc,.func (.func 75) #[] #[M w.heap.size]] hz (gU hz (q (i:Int)))):=PM;obtain⟨g,Iv,R⟩:=vA xE.1 r;subst Iv;have VN:c g=2/\F g:=by have:=aK.2 g rfl;exact⟨this.2,this.1⟩
  have ed:g≠b:=fun e=>by have:=VN.1;rw[e,Pz.2] at this;cases this
  have aej:IntKind.i64.wrap ((i:Int)+1)=(i:Int)+1:=mC;have nM:¬(i:Int)<0:=r;have axg:(0:Int)<=(i:Int):=r;have atX:Hid (∀W,eB hz W->ey 76 #[.slice (some ⟨g,0,none⟩) s.nj.length pc,q (i:Int),q ((i:Int)+1)] W fun e w'=>e=.returned (.slice (some ⟨g,0,none⟩) (s.nj.length-1) pc)/\(dp w' b 4=some (.slice (some ⟨g,0,none⟩) s.nj.length pc)/\w'.frozen? ⟨b,4,none⟩=false)/\Hid (vE F w b {s with nj:=s.nj.eraseIdx i} (w'.setCell ⟨b,4,none⟩ (.slice (some ⟨g,0,none⟩) (s.nj.length-1) pc)))):=u (fun W A=>by
   have hK:=Below.fK iD A;have atY:eg (eT F c 2) W 97 5 (.slice (some ⟨g,0,none⟩) s.nj.length pc) s.nj.length (s.nj.flatMap xi):=aK.move (fun k hk av=>⟨av,hK.block k hk⟩);refine(atO 0 g pc s.nj.length i (s.nj.flatMap xi) W atY.1 (atU _) hi r).mono ?_;rintro e w' ⟨rfl,aI,aZ⟩;rw[atT] at aI;have anr:=Below.a8 A JZ;have Yu:w'.heap[b]?=some (.cells #[aE,.slice b6 cj lc,.slice bt aX bD,q (s.jr.count:Int),.slice (some ⟨g,0,none⟩) s.nj.length pc,q (s.last:Int),q s.ck.dS] 63 (0,0)):=(aZ.block b (jq anr) (fun e=>ed (bx e).symm)).trans anr
   have Yq:(w'.setCell ⟨b,4,none⟩ (.slice (some ⟨g,0,none⟩) (s.nj.length-1) pc)).heap[b]?=some (.cells #[aE,.slice b6 cj lc,.slice bt aX bD,q (s.jr.count:Int),.slice (some ⟨g,0,none⟩) (s.nj.length-1) pc,q (s.last:Int),q s.ck.dS] 63 (0,0)):=hc (o:=4) Yu _;have dd:da (fun U=>U=b\/U=g) w (w'.setCell ⟨b,4,none⟩ (.slice (some ⟨g,0,none⟩) (s.nj.length-1) pc)):=(da.of hK).andThen ((da.grown aZ (fun k e=>.inr (bx e).symm)).andThen (da.set b 4 _ (.inl rfl)));refine⟨rfl,⟨Z Yu (i:=4) rfl,aQ (i:=4) Yu⟩,u ?_⟩;have Iy:∀U,U<w.heap.size->U≠b->U≠g->(w'.setCell ⟨b,4,none⟩ (.slice (some ⟨g,0,none⟩) (s.nj.length-1) pc)).heap[U]?=w.heap[U]?:=fun U ae bM b9=>dd.block U ae (fun e=>e.elim bM b9)
   refine aqV (c:=c) (last:=s.last) (pa:=some ⟨g,0,none⟩) (pn:=s.nj.length-1) (pc:=pc) b5 aw (h1.put (fun as6 e=>?_) (fun k hk av ar=>Iy k hk ar (fun e=>?_))) (H.move (fun k hk av=>⟨av,Iy k hk (fun e=>?_) (fun e=>?_)⟩)) (ab.move (fun k hk av=>⟨av,Iy k hk (fun e=>?_) (fun e=>?_)⟩)) ?_ (dd.mono (fun k _ e=>?_))
   ·rw[g1.2] at e;injection e with e;injection e with e _;obtain rfl:aE=as6:=bx (congrArg (fun a=>a[0]?) e);exact Yq
   ·have:=av.2;rw[e,VN.1] at this;cases this
   ·have:=av.2;rw[e,Pz.2] at this;cases this
   ·have:=av.2;rw[e,VN.1] at this;cases this
   ·have:=av.2;rw[e,Pz.2] at this;cases this
   ·have:=av.2;rw[e,VN.1] at this;cases this
   ·have b7:(s.nj.eraseIdx i).length=s.nj.length-1:=by rw[List.length_eraseIdx,if_pos hi]
    have qA:eg (db (eT F c 2) w) w' 97 5 (.slice (some ⟨g,0,none⟩) (s.nj.length-1) pc) (s.nj.eraseIdx i).length ((s.nj.eraseIdx i).flatMap xi):=⟨by rw[b7];exact aI,fun k e=>by
     obtain rfl:g=k:=bx e;exact db.any (aK.2 g rfl)⟩
    exact qA.set (qA.apart Yu K) 4 _
   ·rcases e with e | e
    ·rw[e];exact Pz.1
    ·rw[e];exact VN.2)
  have Ud:Hid (∀W,eB hz W->dp W b 4=some (.slice (some ⟨g,0,none⟩) s.nj.length pc)):=u (fun W A=>(A.cell (p:=⟨b,4,none⟩) (jq JZ)).trans gp);have ht:Hid (Ga s.nj m=s.nj.eraseIdx i):=u (by unfold Ga;rw[aj]);clear h cS aw h1 H ab aK g0 g1 g2 g3 xE JZ fA aj iD;go_enter func44,ntmps44;go_wp2_with (first | (go_at_call 76;refine(atX.d S ah.d).mono ?_;rintro e aA ⟨rfl,⟨hq,f4⟩,oG⟩) | (go_at_call 74;refine PM.d.mono ?_;rintro e S ⟨rfl,MV⟩;have d4:=Ud.d S MV;have ah:=u MV;clear MV));go_ret;exact⟨rfl,by rw[ht.d];exact oG.d⟩
def A1(td:List eb)(s:e6):Nat:=if kq s [1,2]≠0 then kq s [1,2] else match hC s with
 | none=>0
 | some x=>if mM x.1<0 then 1 else pj td x.2
def uO(j:qh)(bd:List bG):List bG:=[Al j.log,Am j.ng]++bd
def aqZ(j:qh)(bd:List bG)(s:e6)(w:World)(e:Ending)(w':World):Prop:=Below w.heap.size w w'/\∃f sp YB,e=.returned (.tuple #[.agg #[q f,q sp,.pointer YB],q (A1 (pq (uO j bd)) s:Int)])/\(A1 (pq (uO j bd)) s=0->∃ts t x lo hi td,hC s=some (ts,t)/\ts.length<=400/\f=(gq ts:Int)/\sp=mM ts/\w.heap.size<=lo/\YB=some ⟨x,0,none⟩/\oJ td (uO j bd)/\dK td w' t [] lo hi [M x])
def auR(s:e6)(j:qh)(bd:List bG)(b:Nat)(aC b6 bt pa:Option Addr)(c6 bA cj lc aX bD pn pc:Nat)(auS auT:Int)(w:World)(R:et w)(aa:w.heap[b]?=some (.cells #[.slice aC c6 bA,.slice b6 cj lc,.slice bt aX bD,q (j.count:Int),.slice pa pn pc,q auS,q auT] 63 (0,0)))(h1:fB F w (.slice b6 cj lc) j.log)(H:fB F w (.slice bt aX bD) j.ng)(bi:p3 F w (.slice aC c6 bA) bd)(Ax:bd.length<=900)(xP:∀t∈bd,t.bl.length<=4):ey 41 #[M b,.string s] w (aqZ j bd s w):=by
 have k0:=R.js;have bc:=jq aa;have kF:Below w.heap.size w (w.alloc (.cells #[q 0,q 0,.pointer none] 87)):=cT;have z0:(w.alloc (.cells #[q 0,q 0,.pointer none] 87)).heap.size=w.heap.size+1:=by simp
 have Dk:=bH w (.cells #[q 0,q 0,.pointer none] 87);generalize DP:w.alloc (.cells #[q 0,q 0,.pointer none] 87)=hz at *;have ahR:Below hz.heap.size hz (hz.alloc (.cells #[q 1,q 2] 85)):=cT;have jQ:Below w.heap.size w (hz.alloc (.cells #[q 1,q 2] 85)):=Below.fK kF ahR;have b3:(hz.alloc (.cells #[q 1,q 2] 85)).heap.size=hz.heap.size+1:=by simp
 have cK:=u (ahl s [1,2] _ _ (R.below jQ k0) (uh.made hz [1,2] #[q 1,q 2] rfl K) K);have ur:=u (Below.a8 ahR Dk);have ani:=u z0;have JS:=u b3;clear z0 b3;go_enter func41,ntmps41;go_upto_region 1 with fail;go_wp2_with fail;refine cK.d.mono ?_;rintro e J ⟨bJ,⟨cy,rfl⟩ | ⟨ts,t,x,hi,aY,r4,b7,rfl,fz⟩⟩
 ·have sZ:Hid (A1 (pq (uO j bd)) s=kq s [1,2]):=u (by unfold A1;rw[if_pos cy]);have aes:((kq s [1,2]:Int)==0)=false:=by rw[cV];omega
  have LC:=u cy;have ah:Below w.heap.size w J:=Below.fK jQ bJ;have dF:Below J.heap.size J (J.alloc (.cells #[q 0,q 0,.pointer none] 87)):=cT;have dT:Hid (Below w.heap.size w (J.alloc (.cells #[q 0,q 0,.pointer none] 87))):=u (Below.fK ah dF);have cX:=Below.a8 dF (Below.a8 bJ ur.d);have k6:(J.alloc (.cells #[q 0,q 0,.pointer none] 87)).cell? ⟨w.heap.size,0,none⟩=some (q 0):=Z cX (i:=0) rfl;have q1:(J.alloc (.cells #[q 0,q 0,.pointer none] 87)).cell? ⟨w.heap.size,1,none⟩=some (q 0):=Z cX (i:=1) rfl;have bN:(J.alloc (.cells #[q 0,q 0,.pointer none] 87)).cell? ⟨w.heap.size,2,none⟩=some (.pointer none):=Z cX (i:=2) rfl;have p0:=aQ (i:=0) cX;have p1:=aQ (i:=1) cX;have p2:=aQ (i:=2) cX
  clear cy bJ kF ahR jQ cK dF cX ah h1 H bi Dk ur;unfold ui;generalize kq s [1,2]=aB at *;go_upto_region 2 with fail;generalize J.alloc (.cells #[q 0,q 0,.pointer none] 87)=W at *;go_wp2_with fail;refine bodyPost_ret (v:=.tuple #[.agg #[q 0,q 0,.pointer none],q (aB:Int)]) (by simp[results,results41,go_sem, *]) rfl ⟨((dT.d.setCell (p:=⟨w.heap.size,0,none⟩) ap _).setCell (p:=⟨w.heap.size,1,none⟩) ap _).setCell (p:=⟨w.heap.size,2,none⟩) ap _,0,0,none,by rw[sZ.d],fun e=>?_⟩;rw[sZ.d] at e;exact absurd e LC.d
 ·have ah:Below w.heap.size w J:=Below.fK jQ bJ;have dF:Below J.heap.size J (J.alloc (.cells #[q (gq ts:Int),q (mM ts),M x] 87)):=cT;have fq:=bH J (.cells #[q (gq ts:Int),q (mM ts),M x] 87);have cg:=Below.fK ah dF;have cX:=Below.a8 dF (Below.a8 bJ ur.d);have eU:=Below.a8 cg aa;obtain⟨ko,mW⟩:=Xn b7 (Pq r4);obtain⟨tN,Cz⟩:=MX b7 (Pq r4);have hV:=(fz.kept (Lq dF));rw[JS.d,ani.d] at hV;clear fz;have avU:w.heap.size<J.heap.size:=by have:=bJ.size;rw[JS.d,ani.d] at this;omega
  go_upto_region 2 with fail;generalize arD:J.alloc (.cells #[q (gq ts:Int),q (mM ts),M x] 87)=W at *;generalize J.heap.size=aB at *;have Pa:Hid (∀aU:World,(∀(k:Nat) (cs:Array Value) (bp:TypeId),W.heap[k]?=some (.cells cs bp (0,0))->(bp=87\/bp=63)->aU.heap[k]?=some (.cells cs bp (0,0)))->(dp aU aB 0=some (q (gq ts:Int))/\dp aU aB 1=some (q (mM ts))/\dp aU aB 2=some (M x)/\dp aU b 0=some (.slice aC c6 bA)/\dp aU b 1=some (.slice b6 cj lc)/\dp aU b 2=some (.slice bt aX bD)/\dp aU b 3=some (q (j.count:Int)))/\(dp aU w.heap.size 0=some (q 0)/\dp aU w.heap.size 1=some (q 0)/\dp aU w.heap.size 2=some (.pointer none)/\aU.frozen? ⟨w.heap.size,0,none⟩=false/\aU.frozen? ⟨w.heap.size,1,none⟩=false/\aU.frozen? ⟨w.heap.size,2,none⟩=false)):=u (fun aU hk=>by
   have aI:=hk _ _ _ fq (.inl rfl);have aZ:=hk _ _ _ eU (.inr rfl);have a6:=hk _ _ _ cX (.inl rfl);exact⟨⟨Z aI (i:=0) rfl,Z aI (i:=1) rfl,Z aI (i:=2) rfl,Z aZ (i:=0) rfl,Z aZ (i:=1) rfl,Z aZ (i:=2) rfl,Z aZ (i:=3) rfl⟩,⟨Z a6 (i:=0) rfl,Z a6 (i:=1) rfl,Z a6 (i:=2) rfl,aQ (i:=0) a6,aQ (i:=1) a6,aQ (i:=2) a6⟩⟩)
  have anq:Hid (∀aU:World,Below W.heap.size W aU->(dp aU aB 0=some (q (gq ts:Int))/\dp aU aB 1=some (q (mM ts))/\dp aU aB 2=some (M x)/\dp aU b 0=some (.slice aC c6 bA)/\dp aU b 1=some (.slice b6 cj lc)/\dp aU b 2=some (.slice bt aX bD)/\dp aU b 3=some (q (j.count:Int)))/\(dp aU w.heap.size 0=some (q 0)/\dp aU w.heap.size 1=some (q 0)/\dp aU w.heap.size 2=some (.pointer none)/\aU.frozen? ⟨w.heap.size,0,none⟩=false/\aU.frozen? ⟨w.heap.size,1,none⟩=false/\aU.frozen? ⟨w.heap.size,2,none⟩=false)):=u (fun aU A=>Pa.d aU (fun k cs bp e _=>Below.a8 A e));obtain⟨⟨eR,l1,bT,hr,cN,bL,fS⟩,⟨k6,q1,bN,p0,p1,p2⟩⟩:=anq.d W (Below.refl _ _);have IA:=u cg;by_cases DV:mM ts<0
  ·have sZ:Hid (A1 (pq (uO j bd)) s=1):=u (by unfold A1;rw[if_neg (by rw[aY];decide),r4];exact if_pos DV);clear cg eU cX fq hV ko mW tN Cz Pa anq cK ur Dk h1 H bi ah dF bJ jQ kF ahR r4;go_wp2_with fail;refine bodyPost_ret (v:=.tuple #[.agg #[q 0,q 0,.pointer none],q 1]) (by simp[results,results41,go_sem, *]) rfl ⟨((IA.d.setCell (p:=⟨w.heap.size,0,none⟩) ap _).setCell (p:=⟨w.heap.size,1,none⟩) ap _).setCell (p:=⟨w.heap.size,2,none⟩) ap _,0,0,none,by rw[sZ.d];rfl,fun e=>?_⟩;rw[sZ.d] at e;cases e
  ·have sZ:Hid (A1 (pq (uO j bd)) s=pj (pq (uO j bd)) t):=u (by unfold A1;rw[if_neg (by rw[aY];decide),r4];exact if_neg DV);have ahn:(0:Int)<=mM ts:=r;have vz:Below W.heap.size W W.drew:=⟨rfl,rfl,rfl,ap,fun _ _=>rfl⟩;have H3:=u r4;have MZ:=u b7;have aq0:Hid (w.heap.size<=w.heap.size+1+1):=u r
   have Yv:Hid (ey 73 #[.agg #[.slice b6 cj lc,.slice bt aX bD,q (j.count:Int)]] W.drew fun e aA=>∃hI J0,e=.returned (.slice hI 2 J0)/\(dp aA aB 0=some (q (gq ts:Int))/\dp aA aB 1=some (q (mM ts))/\dp aA aB 2=some (M x)/\dp aA b 0=some (.slice aC c6 bA)/\dp aA b 1=some (.slice b6 cj lc)/\dp aA b 2=some (.slice bt aX bD)/\dp aA b 3=some (q (j.count:Int)))/\(dp aA w.heap.size 0=some (q 0)/\dp aA w.heap.size 1=some (q 0)/\dp aA w.heap.size 2=some (.pointer none)/\aA.frozen? ⟨w.heap.size,0,none⟩=false/\aA.frozen? ⟨w.heap.size,1,none⟩=false/\aA.frozen? ⟨w.heap.size,2,none⟩=false)/\Hid (Below W.heap.size W aA/\p3 (db F w) aA (.slice hI 2 J0) [Al j.log,Am j.ng])):=u (by
    have k7:=Below.fK IA.d vz;refine(apl (F:=db F w) _ _ (j.count:Int) _ _ W.drew (h1.move (dj.mP k7)) (H.move (dj.mP k7))).mono ?_;rintro e aA ⟨hI,J0,rfl,t1,t2⟩;have lM:Below W.heap.size W aA:=Below.fK vz t2;obtain⟨aI,aZ⟩:=anq.d aA lM;exact⟨hI,J0,rfl,aI,aZ,u ⟨lM,t1.move (dj.to fun k _ hk=>Xs k7.size k hk)⟩⟩)
   have Yw:Hid (∀(aA:World) (hI:Option Addr) (J0:Nat),Below W.heap.size W aA->p3 (db F w) aA (.slice hI 2 J0) [Al j.log,Am j.ng]->ey 72 #[.slice (some ⟨aA.heap.size,0,none⟩) 2 2] (aA.alloc (.cells #[.slice hI 2 J0,.slice aC c6 bA] 58)) fun e bI=>∃r0 O5 ac,e=.returned (.slice r0 O5 ac)/\(dp bI aB 0=some (q (gq ts:Int))/\dp bI aB 1=some (q (mM ts))/\dp bI aB 2=some (M x)/\dp bI b 0=some (.slice aC c6 bA)/\dp bI b 1=some (.slice b6 cj lc)/\dp bI b 2=some (.slice bt aX bD)/\dp bI b 3=some (q (j.count:Int)))/\(dp bI w.heap.size 0=some (q 0)/\dp bI w.heap.size 1=some (q 0)/\dp bI w.heap.size 2=some (.pointer none)/\bI.frozen? ⟨w.heap.size,0,none⟩=false/\bI.frozen? ⟨w.heap.size,1,none⟩=false/\bI.frozen? ⟨w.heap.size,2,none⟩=false)/\Hid (Below W.heap.size W bI/\p3 (db F w) bI (.slice r0 O5 ac) (uO j bd))):=u (fun aA hI J0 lM Yx=>by
    have dF:Below aA.heap.size aA (aA.alloc (.cells #[.slice hI 2 J0,.slice aC c6 bA] 58)):=cT;have Hs:=Below.fK IA.d lM;have PK:=Below.fK Hs dF;refine(apm (F:=db F w) (.slice hI 2 J0) (.slice aC c6 bA) _ bd aA.heap.size _ (Yx.move (fun k hk av=>⟨av,dF.block k hk⟩)) (bi.move (dj.mP PK)) (bH aA _) (by show 2+bd.length<=1000;omega)).mono ?_;rintro e bI ⟨r0,ac,rfl,u1,u2⟩;have iR:=Below.fK lM (Below.fK dF u2);obtain⟨aI,aZ⟩:=anq.d bI iR;exact⟨r0,_,ac,rfl,aI,aZ,u ⟨iR,u1.move (dj.to fun k _ hk=>Xs PK.size k hk)⟩⟩)
   have auU:Hid (∀(bI:World) (r0:Option Addr) (O5 ac:Nat),Below W.heap.size W bI->p3 (db F w) bI (.slice r0 O5 ac) (uO j bd)->ey 57 #[M x,.slice r0 O5 ac] bI fun e bh=>e=.returned (q (pj (pq (uO j bd)) t:Int))/\(dp bh aB 0=some (q (gq ts:Int))/\dp bh aB 1=some (q (mM ts))/\dp bh aB 2=some (M x)/\dp bh b 0=some (.slice aC c6 bA)/\dp bh b 1=some (.slice b6 cj lc)/\dp bh b 2=some (.slice bt aX bD)/\dp bh b 3=some (q (j.count:Int)))/\(dp bh w.heap.size 0=some (q 0)/\dp bh w.heap.size 1=some (q 0)/\dp bh w.heap.size 2=some (.pointer none)/\bh.frozen? ⟨w.heap.size,0,none⟩=false/\bh.frozen? ⟨w.heap.size,1,none⟩=false/\bh.frozen? ⟨w.heap.size,2,none⟩=false)/\Hid (Below w.heap.size w bh/\(pj (pq (uO j bd)) t=0->∃td,oJ td (uO j bd)/\dK td bh t [] (w.heap.size+1+1) hi [M x])/\∃cs,bh.heap[w.heap.size]?=some (.cells cs 87 (0,0)))):=u (fun bI r0 O5 ac iR Yy=>by
    obtain⟨td,g1,g2⟩:=Yy.B (fun t au=>by
     unfold uO at au;rcases ax5 au with au | au
     ·rcases List.mem_cons.1 au with rfl | au
      ·show 3<=4;omega
      ·obtain rfl:=ic au;show 3<=4;omega
     ·exact xP t au)
    have hrel:=ano g2;have ut:pj td t=pj (pq (uO j bd)) t:=(ann hrel.1 hrel.2 t).symm;refine(ah5 td t x (w.heap.size+1+1) hi _ bI ko (hV.kept (Lq iR)) g1 r).mono ?_;rintro e bh ⟨rfl,bM,b9⟩;rw[ut] at b9 ⊢;obtain⟨aI,aZ⟩:=Pa.d bh (fun k cs bp e hu=>bM.other (Below.a8 iR e) (by rcases hu with rfl | rfl<;>decide) (by rcases hu with rfl | rfl<;>decide) (by rcases hu with rfl | rfl<;>decide));exact⟨rfl,aI,aZ,u ⟨am7 (Below.fK IA.d iR) bM aq0.d (Below.fK IA.d iR).size,fun e=>⟨td,g2,b9 e⟩,_,bM.other (Below.a8 iR cX) K K K⟩⟩)
   have hA1:¬aB=w.heap.size:=r;have hA2:¬w.heap.size=aB:=r;have avV:¬b=w.heap.size:=r;have avW:¬w.heap.size=b:=r;clear cg eU cX fq hV ko mW tN Cz Pa anq cK ur Dk h1 H bi ah dF bJ jQ kF ahR r4 b7 vz;generalize pj (pq (uO j bd)) t=r5 at *;go_upto_region 6 with fail
   go_region_held3 (fun w'=>(w'.cell? ⟨aB,0,none⟩=some (q (gq ts:Int))/\w'.cell? ⟨aB,1,none⟩=some (q (mM ts))/\w'.cell? ⟨aB,2,none⟩=some (M x)/\w'.cell? ⟨b,0,none⟩=some (.slice aC c6 bA)/\w'.cell? ⟨b,1,none⟩=some (.slice b6 cj lc)/\w'.cell? ⟨b,2,none⟩=some (.slice bt aX bD)/\w'.cell? ⟨b,3,none⟩=some (q (j.count:Int)))) (go_keep) (first | (go_at_call 57;refine(auU.d bI r0 O5 ac JT.d.1 JT.d.2).mono ?_;rintro e bh ⟨rfl,⟨c7,Y,am,bm,hq,ol,s8⟩,⟨gm,aI,aZ,a6,dt,e8⟩,Yz⟩) | (go_at_call 72;refine(Yw.d aA hI J0 JU.d.1 JU.d.2).mono ?_;rintro e bI ⟨r0,O5,ac,rfl,⟨d0,d1,d2,d3,d4,d5,d6⟩,⟨i0,i1,i2,i3,i4,i5⟩,JT⟩) | (go_at_call 73;refine Yv.d.mono ?_;rintro e aA ⟨hI,J0,rfl,⟨bk,c1,c2,dZ,gp,fO,jy⟩,⟨g0,g1,g2,g3,g4,g5⟩,JU⟩));all_goals go_wp2_with fail
   all_goals
    refine bodyPost_ret (v:=.tuple #[.agg #[q (gq ts:Int),q (mM ts),M x],q (r5:Int)]) (by simp[results,results41,go_sem, *]) rfl ?_;obtain⟨bM,b9,avX,ag⟩:=Yz.d;refine⟨((bM.setCell (p:=⟨w.heap.size,0,none⟩) ap _).setCell (p:=⟨w.heap.size,1,none⟩) ap _).setCell (p:=⟨w.heap.size,2,none⟩) ap _,_,_,_,by rw[sZ.d],fun e=>?_⟩;rw[sZ.d] at e;obtain⟨td,m1,m2⟩:=b9 e;have key:∀(k:Nat) (cs:Array Value) (bp:TypeId) (m:Nat×Nat),bh.heap[k]?=some (.cells cs bp m)->bp≠87->k≠w.heap.size:=by rintro k cs bp m e hu rfl;rw[ag] at e;injection e with e;injection e with _ e;exact hu e.symm
    have c4:∀k,k≠w.heap.size->(((bh.setCell ⟨w.heap.size,0,none⟩ (q (gq ts:Int))).setCell ⟨w.heap.size,1,none⟩ (q (mM ts))).setCell ⟨w.heap.size,2,none⟩ (M x)).heap[k]?=bh.heap[k]?:=fun k hk=>by rw[Below.heap_setCell _ _ _ k hk,Below.heap_setCell _ _ _ k hk,Below.heap_setCell _ _ _ k hk]
    refine⟨ts,t,x,_,hi,td,H3.d,MZ.d,rfl,rfl,aq0.d,rfl,m1,m2.a8 (fun k cs m e _ _=>(c4 k (key k _ _ _ e K)).trans e) (fun k cs m t' au e=>(c4 k (key k _ _ _ e (by rcases au with rfl | rfl | rfl<;>decide))).trans e)⟩
def UP(C:Nat×List al):Int:=(C.2.getD 2 al.zero).num
def vM(l:je):Prop:=l.Pairwise (fun a b=>a.1<b.1/\UP a<=UP b)/\∀C∈l,1<=C.1
def aq3(t:Int)(l:je)(x:Nat×List al):Gb t (l++[x])=if UP x<=t then x.1 else Gb t l:=by unfold Gb UP;rw[List.foldl_append];rfl
def akb(t:Int)(l:je):Gb t l=0\/∃C∈l,Gb t l=C.1:=by
 have key:∀(l:je) (a:Nat),l.foldl (fun a C=>if (C.2.getD 2 al.zero).num<=t then C.1 else a) a=a\/∃C∈l,l.foldl (fun a C=>if (C.2.getD 2 al.zero).num<=t then C.1 else a) a=C.1:=by
  intro l;induction l with
  | nil=>intro a;exact .inl rfl
  | cons x C aH=>
   intro a;rw[List.foldl_cons];rcases aH (if (x.2.getD 2 al.zero).num<=t then x.1 else a) with h | ⟨y,cn,h⟩
   ·by_cases aa:(x.2.getD 2 al.zero).num<=t
    ·rw[if_pos aa] at h ⊢;exact .inr ⟨x,ax6 ..,h⟩
    ·rw[if_neg aa] at h ⊢;exact .inl h
   ·exact .inr ⟨y,List.mem_cons_of_mem _ cn,h⟩
 exact key l 0
def awO{l:je}(h:vM (l++[x])):vM l/\(∀C∈l,C.1<x.1/\UP C<=UP x)/\1<=x.1:=by obtain⟨h1,H⟩:=h;obtain⟨bq,a2,a3⟩:=List.pairwise_append.1 h1;exact⟨⟨bq,fun C ag=>H C (List.mem_append_left _ ag)⟩,fun C ag=>a3 C ag x (List.mem_singleton.2 rfl),H x (List.mem_append_right _ (List.mem_singleton.2 rfl))⟩
def aq4(t:Int):∀(n:Nat) (l:je),l.length=n->vM l->∀C∈l,Gb t l<C.1↔t<UP C
 | 0,l,ar,_,C,ag=>by rw[ma ar] at ag;cases ag
 | n+1,l,ar,h,C,ag=>by
  rcases List.eq_nil_or_concat l with rfl | ⟨l,x,rfl⟩
  ·cases ag
  rw[List.concat_eq_append] at *;rw[cu,List.length_singleton] at ar;obtain⟨h1,H,ab⟩:=awO h;rw[aq3];by_cases aa:UP x<=t
  ·rw[if_pos aa];rcases ax5 ag with ag | ag
   ·have:=H C ag;constructor<;>intro<;>omega
   ·obtain rfl:=ic ag;constructor<;>intro<;>omega
  ·rw[if_neg aa];rcases ax5 ag with ag | ag
   ·exact aq4 t n l r h1 C ag
   ·obtain rfl:=ic ag;refine⟨fun _=>r,fun _=>?_⟩;rcases akb t l with e | ⟨y,cn,e⟩
    ·omega
    ·have:=(H y cn).1;omega
def ajX(t:Int)(l:je)(h:vM l):∀C∈l,Gb t l<C.1↔t<UP C:=aq4 t _ l rfl h
def vM.sub{l m:je}(h:vM l)(hs:m.Sublist l):vM m:=⟨h.1.sublist hs,fun C ag=>h.2 C (hs.subset ag)⟩
def vM.snoc{l:je}(h:vM l)(h1:∀C∈l,C.1<x.1/\UP C<=UP x)(H:1<=x.1):vM (l++[x]):=⟨List.pairwise_append.2 ⟨h.1,List.pairwise_singleton _ _,fun a ak b A=>by obtain rfl:=ic A;exact h1 a ak⟩,fun C ag=>by
 rcases ax5 ag with ag | ag
 ·exact h.2 C ag
 ·obtain rfl:=ic ag;exact H⟩
