import Derived.Test.YtjebdgbpopolkaaGreatDoorM030
set_option maxHeartbeats 0
set_option maxRecDepth 100000
set_option linter.all false
namespace Go.Proofs.YtjebdgbpopolkaaGreatDoor
open Tryz
open Go.RowKit
open bS
variable{N b c n:Nat}{w w':World}{gv:Value}{xs:List (Value×List Value)}{es:Array MapEntry}
structure ux (N:Nat) (w w':World):Prop where
 os:w'.os=w.os
 tape:w'.tape=w.tape
 output:w'.output=w.output
 size:w.heap.size<=w'.heap.size
 block:∀k,k<w.heap.size->w'.heap[k]?=w.heap[k]?\/(N<=k/\((∃cs t m,w.heap[k]?=some (.cells cs t m)/\(t=92\/t=93))\/∃es c,w.heap[k]?=some (.map es c)))
def ux.trans{N:Nat}{a b c:World}(h:ux N a b)(g:ux N b c):ux N a c:=⟨g.os.trans h.os,g.tape.trans h.tape,g.output.trans h.output,bX h.size g.size,fun k hk=>by
 rcases h.block k hk with e | e
 ·rcases g.block k (e0 hk h.size) with f | f
  ·exact .inl (f.trans e)
  ·rw[e] at f;exact .inr f
 ·exact .inr e⟩
def ux.of(h:eB w w'):ux N w w':=⟨h.os,h.tape,h.output,h.size,fun k hk=>.inl (h.block k hk)⟩
structure VV (w w':World):Prop where
 size:w.heap.size<=w'.heap.size
 cells:∀(k:Nat) (cs:Array Value) (t:TypeId) (m:Nat×Nat),(t=92\/t=93)->w.heap[k]?=some (.cells cs t m)->w'.heap[k]?=w.heap[k]?
 maps:∀(k:Nat) (es:Array MapEntry) (c:Nat),w.heap[k]?=some (.map es c)->w'.heap[k]?=w.heap[k]?
structure nE (N:Nat) (w:World) (gv:Value) (xs:List (Value×List Value)):Prop where
 out:w.ownsRow N 93 1 gv xs.length (xs.map (·.1))
 kI:∀i (h:i<xs.length),w.ownsRow N 92 1 xs[i].1 xs[i].2.length xs[i].2
 apart:∀i j (hi:i<xs.length) (aS:j<xs.length),i≠j->∀b,xs[i].1.ownBlock=some b->xs[j].1.ownBlock≠some b
def nE.stays(h:nE N w gv xs)(s:VV w w'):nE N w' gv xs:=⟨ph h.out (fun k hk=>by obtain⟨_,cs,e⟩:=hD h.out hk;exact s.cells k cs _ _ (.inr rfl) e),fun i hi=>ph (h.kI i hi) (fun k hk=>by obtain⟨_,cs,e⟩:=hD (h.kI i hi) hk;exact s.cells k cs _ _ (.inl rfl) e),h.apart⟩
def nE.akx(h:nE N w gv xs)(hm:w.heap[b]?=some (.map es c))(R:w.grownBy w' (some b)):nE N w' gv xs:=by
 have key:∀(k:Nat) (cs:Array Value) (t:TypeId),w.heap[k]?=some (.cells cs t (0,0))->w'.heap[k]?=w.heap[k]?:=fun k cs t e=>R.block k (br e).1 (fun w6=>by
  injection w6 with w6;subst w6;rw[e] at hm;cases hm)
 exact⟨ph h.out (fun k hk=>by obtain⟨_,cs,e⟩:=hD h.out hk;exact key k cs _ e),fun i hi=>ph (h.kI i hi) (fun k hk=>by obtain⟨_,cs,e⟩:=hD (h.kI i hi) hk;exact key k cs _ e),h.apart⟩
def aky:(prog.info? 93).map (fun i=>(i.zero,i.size,i.bytes))=some (some (.slice none 0 0),1,24):=ax
def IW{lo size k:Nat}{e:TypeId}{v:Value}{xs:List Value}(h:w.ownsRow lo e size v n xs)(A:v.ownBlock=some k):k<w.heap.size:=by obtain⟨_,cs,e⟩:=hD h A;exact(br e).1
def VW(w w':World):Prop:=∀(k:Nat) (es:Array MapEntry) (c:Nat),w.heap[k]?=some (.map es c)->w'.heap[k]?=w.heap[k]?
def nE.more(h:nE N w gv xs)(cS:N<=w.heap.size)(X:xs.length<=100000):∃cF w',(∀ty,(Builtin.append_ #[154,154] ty #[gv,.slice (some ⟨w.heap.size,0,none⟩) 1 1]).run prog (w.alloc (.cells #[.slice none 0 0] 93))=.ok cF w')/\nE N w' cF (xs++[(.slice none 0 0,[])])/\ux N w w'/\VW w w':=by
 obtain⟨cF,w',ag,an,R,fq⟩:=ug underlying154 aky rfl K K h.out #[.slice none 0 0] rfl (by simp[Value.oneCell']) r cS;have dI:=(Below.refl w.heap.size w).alloc ap (.cells #[.slice none 0 0] 93);have key:∀k,k<w.heap.size->gv.ownBlock≠some k->w'.heap[k]?=w.heap[k]?:=fun k hk cy=>(R.block k (e0 hk dI.size) (fun e=>cy e.symm)).trans (dI.block k hk);refine⟨cF,w',ag,⟨?_,fun i hi=>?_,fun i j hi aS cy b A=>?_⟩,⟨R.os.trans dI.os,R.tape.trans dI.tape,R.output.trans dI.output,bX dI.size R.size,fun k hk=>?_⟩,fun k es c e=>key k (br e).1 (fun pU=>?_)⟩
 ·rw[cu,List.map_append];exact an
 ·by_cases fM:i<xs.length
  ·rw[List.getElem_append_left fM];refine ph (h.kI i fM) (fun k hk=>key k (IW (h.kI i fM) hk) (fun e=>?_));obtain⟨_,cs,Y⟩:=hD (h.kI i fM) hk;obtain⟨_,fU,am⟩:=hD h.out e;exact oH Y am K rfl
  ·have kA:i=xs.length:=by rw[cu] at hi;simp at hi;omega
   subst kA;rw[List.getElem_append_right ap];simp only[Nat.sub_self,List.getElem_cons_zero];exact World.ownsRow_nil _ _ _ _
 ·by_cases fM:i<xs.length
  ·rw[List.getElem_append_left fM] at A;by_cases lv:j<xs.length
   ·rw[List.getElem_append_left lv];exact h.apart i j fM lv cy b A
   ·have kv:j=xs.length:=by rw[cu] at aS;simp at aS;omega
    subst kv;rw[List.getElem_append_right ap];simp[Value.ownBlock]
  ·have kA:i=xs.length:=by rw[cu] at hi;simp at hi;omega
   subst kA;rw[List.getElem_append_right ap] at A;simp[Value.ownBlock] at A
 ·by_cases e:gv.ownBlock=some k
  ·obtain⟨h1,cs,H⟩:=hD h.out e;exact .inr ⟨h1,.inl ⟨cs,_,_,H,.inr rfl⟩⟩
  ·exact .inl (key k hk e)
 ·obtain⟨_,cs,H⟩:=hD h.out pU;rw[e] at H;cases H
def nE.put(h:nE N w gv xs)(cS:N<=w.heap.size)(i:Nat)(hi:i<xs.length)(X:xs[i].2.length<=100000)(fl:Value)(ai:fl.oneCell'=true):∃g o4 cF w',gv=.slice (some ⟨g,0,none⟩) xs.length o4/\dp w g i=some xs[i].1/\(∃a n c,xs[i].1=.slice a n c)/\(∃a n c,cF=.slice a n c)/\(∀ty,(Builtin.append_ #[93,93] ty #[xs[i].1,.slice (some ⟨w.heap.size,0,none⟩) 1 1]).run prog (w.alloc (.cells #[fl] 92))=.ok cF w')/\dp w' g i=some xs[i].1/\w'.frozen? ⟨g,i,none⟩=false/\g<w.heap.size/\nE N (w'.setCell ⟨g,i,none⟩ cF) gv (xs.set i (cF,xs[i].2++[fl]))/\ux N w (w'.setCell ⟨g,i,none⟩ cF)/\VW w (w'.setCell ⟨g,i,none⟩ cF):=by
 obtain⟨cF,w',ag,an,R,fq⟩:=ug underlying93 VS rfl K K (h.kI i hi) #[fl] rfl (by simpa using ai) r cS;have dI:=(Below.refl w.heap.size w).alloc ap (.cells #[fl] 92);have key:∀k,k<w.heap.size->xs[i].1.ownBlock≠some k->w'.heap[k]?=w.heap[k]?:=fun k hk cy=>(R.block k (e0 hk dI.size) (fun e=>cy e.symm)).trans (dI.block k hk);obtain⟨jH,k2⟩:=h.out;rcases k2 with⟨_,aw⟩ | ⟨g,o4,ay,rfl,q1,bN,fR,iK,j4,km⟩
 ·omega
 have ef:=(br bN).1;have bC:w'.heap[g]?=some (.cells ay 93 (0,0)):=(key g ef (fun e=>by
  obtain⟨_,cs,Y⟩:=hD (h.kI i hi) e;exact oH Y bN K rfl)).trans bN
 have vx:ay[i]?=some xs[i].1:=by
  have:(ay.toList.take (xs.length*1))[i]?=some xs[i].1:=by rw[km,List.getElem?_map,fC hi];rfl
  rw[List.getElem?_take_of_lt r,Array.getElem?_toList] at this;exact this
 obtain⟨akz,akA,akB⟩:=cG (h.kI i hi);obtain⟨aC,bA,akC⟩:=cG an;have D9:(w'.setCell ⟨g,i,none⟩ cF).heap[g]?=some (.cells (ay.setIfInBounds i cF) 93 (0,0)):=hc bC cF;have IX:∀k,k≠g->(w'.setCell ⟨g,i,none⟩ cF).heap[k]?=w'.heap[k]?:=fun k hk=>Below.heap_setCell _ _ _ k (by exact hk);refine⟨g,o4,cF,w',rfl,Z bN vx,⟨_,_,_,akB⟩,⟨_,_,_,akC⟩,ag,Z bC vx,aQ bC,ef,⟨?_,fun j aS=>?_,fun j uf aS lv cy b A=>?_⟩,⟨R.os.trans dI.os,R.tape.trans dI.tape,R.output.trans dI.output,by rw[size_set];exact bX dI.size R.size,fun k hk=>?_⟩,fun k es c e=>(IX k (fun w6=>?_)).trans (key k (br e).1 (fun pU=>?_))⟩
 ·rw[List.length_set];refine⟨by rw[cZ,List.length_set,Nat.mul_one],.inr ⟨g,o4,_,rfl,q1,D9,fR,iK,by rw[Array.size_setIfInBounds];exact j4,?_⟩⟩;rw[Array.toList_setIfInBounds,List.take_set,km,List.map_set]
 ·rw[List.length_set] at aS;by_cases Ft:j=i
  ·subst Ft;rw[List.getElem_set_self];simp only[];rw[cu];refine ph an (fun k hk=>IX k (fun e=>?_));subst e;obtain⟨_,cs,Y⟩:=hD an hk;exact oH Y bC K rfl
  ·rw[List.getElem_set_ne (Ne.symm Ft)];refine ph (h.kI j aS) (fun k hk=>(IX k (fun e=>?_)).trans (key k (IW (h.kI j aS) hk) (fun e=>h.apart j i aS hi Ft k hk e)));subst e;obtain⟨_,cs,Y⟩:=hD (h.kI j aS) hk;exact oH Y bN K rfl
 ·have kv:j<xs.length:=by rw[List.length_set] at aS;exact aS
  have VX:uf<xs.length:=by rw[List.length_set] at lv;exact lv
  have eI:∀j (aS:j<xs.length),j≠i->∀b,xs[j].1.ownBlock=some b->cF.ownBlock≠some b:=fun j aS Ft b A hv=>by
   rcases fq with e | e
   ·rw[e] at hv;exact h.apart j i aS hi Ft b A hv
   ·rw[e] at hv;injection hv with hv;have:=IW (h.kI j aS) A;omega
  by_cases h1:j=i
  ·subst h1;rw[List.getElem_set_self] at A;rw[List.getElem_set_ne cy];exact fun e=>eI uf VX (Ne.symm cy) b e A
  ·rw[List.getElem_set_ne (Ne.symm h1)] at A;by_cases H:uf=i
   ·subst H;rw[List.getElem_set_self];exact eI j kv h1 b A
   ·rw[List.getElem_set_ne (Ne.symm H)];exact h.apart j uf kv VX cy b A
 ·by_cases e:xs[i].1.ownBlock=some k
  ·obtain⟨h1,cs,H⟩:=hD (h.kI i hi) e;exact .inr ⟨h1,.inl ⟨cs,_,_,H,.inl rfl⟩⟩
  ·by_cases D4:k=g
   ·subst D4;exact .inr ⟨q1,.inl ⟨ay,_,_,bN,.inr rfl⟩⟩
   ·exact .inl ((IX k D4).trans (key k hk e))
 ·subst w6;rw[e] at bN;cases bN
 ·obtain⟨_,cs,H⟩:=hD (h.kI i hi) pU;rw[e] at H;cases H
def nE.mapped(h:nE N w gv xs)(hm:w.heap[b]?=some (.map es c))(R:w.grownBy w' (some b)):nE N w' gv xs:=h.akx hm R
open Go.Maps
def uy{α:Type}(ks:List (List UInt8))(gs:List (List α))(key:List UInt8)(c:α):List (List UInt8)×List (List α):=match ks.findIdx? (fun k=>decide (k=key)) with
 | some i=>(ks,gs.set i (gs.getD i []++[c]))
 | none=>(ks++[key],gs++[[c]])
def sY{α:Type}(bE:List (List UInt8×α)):List (List UInt8)×List (List α):=bE.foldl (fun s p=>uy s.1 s.2 p.1 p.2) ([],[])
def akD{α:Type}(l:List (List UInt8×α))(p:List UInt8×α):sY (l++[p])=uy (sY l).1 (sY l).2 p.1 p.2:=by unfold sY;rw[List.foldl_append];rfl
structure AC (D:DataW Unit) (ks:List (List UInt8)):Prop where
 map:IsMap D
 no:∀s,ks.findIdx? (fun k=>decide (k=s))=none->Maps.has D (.string s)=false
 yes:∀s i,ks.findIdx? (fun k=>decide (k=s))=some i->Maps.has D (.string s)=true/\D.atKey (.string s) (.lit (.int .i64 0))=.lit (.int .i64 (i:Int))
def AC.nil:AC (.map []) []:=⟨isMap_empty,fun _ _=>rfl,fun s i h=>by cases h⟩
def AC.put{D:DataW Unit}{ks:List (List UInt8)}(h:AC D ks){s:List UInt8}(hs:ks.findIdx? (fun k=>decide (k=s))=none):AC (D.put (.string s) (.lit (.int .i64 (ks.length:Int)))) (ks++[s]):=by
 have av:∀fu,fu≠s->(ks++[s]).findIdx? (fun k=>decide (k=fu))=ks.findIdx? (fun k=>decide (k=fu)):=fun fu cy=>by
  rw[List.findIdx?_append];have:[s].findIdx? (fun k=>decide (k=fu))=none:=by simp[List.findIdx?_cons,Ne.symm cy]
  rw[this];simp
 have tb:(ks++[s]).findIdx? (fun k=>decide (k=s))=some ks.length:=by rw[List.findIdx?_append,hs];simp[List.findIdx?_cons]
 refine⟨h.map.put _ _,fun fu cC=>?_,fun fu i cC=>?_⟩
 ·by_cases e:fu=s
  ·subst e;rw[tb] at cC;cases cC
  ·rw[av fu e] at cC;rw[has_put_other (fun am=>e (by injection am))];exact h.no fu cC
 ·by_cases e:fu=s
  ·subst e;rw[tb] at cC;injection cC with cC;subst cC;exact⟨has_put_same (k:=.string fu) h.map trivial _,atKey_put_same (k:=.string fu) h.map trivial _ _⟩
  ·rw[av fu e] at cC;have cy:Lit.string fu≠Lit.string s:=fun am=>e (by injection am);rw[has_put_other cy,atKey_put_other cy];exact h.yes fu i cC
def Fu{D:DataW Unit}{cm:Value->Option (DataW Unit×List MemPlace)}{k:TypeId}(h:w.ownsMap prog k cm b n D)(A:∀es c,w.heap[b]?=some (.map es c)->w'.heap[b]?=w.heap[b]?):w'.ownsMap prog k cm b n D:=by obtain⟨es,c,h1,H⟩:=h;exact⟨es,c,(A es c h1).trans h1,H⟩
def On:Keyed prog 9:=string_keyed underlying9
def VY(w:World):(zeroValue 3).run prog w=.ok (.int .i64 0) w:=ax
def akE{wb:Nat}{bl:Value}{ka:Option Addr}{sX:Nat}(bE:List (List UInt8×Value))(gP:World->Prop)(w:World)(ar:bE.length<=100000)(pK:∀p∈bE,∃a n c,p.2=.slice a n c)(tn:∀p∈bE,p.1.length<=1000000)(n4:∀W aU,gP W->ux w.heap.size W aU->gP aU)(cK:∀W,gP W->w.heap.size<=W.heap.size/\W.ownsRow 0 92 1 (.slice ka bE.length sX) bE.length (bE.map (·.2)))(cW:∀W j (h:j<bE.length),gP W->ey 165 #[.pointer (some ⟨wb,0,none⟩),bl,bE[j].2] W fun e aU=>e=.returned (.string (a7 bE[j].1))/\gP aU/\VV W aU)(aw:gP w):ey 114 #[.pointer (some ⟨wb,0,none⟩),bl,.slice ka bE.length sX] w fun e aU=>∃gv xs,e=.returned gv/\gP aU/\nE w.heap.size aU gv xs/\xs.map (·.2)=(sY bE).2:=by
 have Cd:=@run_makeMap prog;have Fv:=u n4;have w1:=u cK;have jF:=u cW;have AD:=u pK;have Fw:=u tn;have kN:=u aw;clear n4 cK cW pK tn aw;go_enter func114,ntmps114;go_upto_region 4 with fail;go_loopg [7,17] (bE.length+1) (fun U gv i wr=>∃(j:Nat) (xs:List (Value×List Value)) (D:DataW Unit),j<=bE.length/\i=.int .i64 (j:Int)/\Hid (gP wr)/\Hid (nE w.heap.size wr gv xs)/\Hid (wr.ownsMap prog 9 (plainElem prog 3) w.heap.size j D)/\Hid (AC D (sY (bE.take j)).1)/\Hid (xs.map (·.2)=(sY (bE.take j)).2)/\Hid ((sY (bE.take j)).1.length=xs.length/\xs.length<=j/\∀x∈xs,x.2.length<=j)/\bE.length-j<U);case atStart=>
  refine⟨0,[],.map [],bu,rfl,u (Fv.out _ _ kN.out (ux.of cT)),u ⟨World.ownsRow_nil _ _ _ _,fun i hi=>(by cases hi),fun i _ hi=>(by cases hi)⟩,u (World.ownsMap_made _ _ _ _),u (by rw[List.take_zero];exact AC.nil),u (by rw[List.take_zero];rfl),u ⟨by rw[List.take_zero];rfl,ap,fun x aa=>by cases aa⟩,r⟩
 case round=>
  obtain⟨j,xs,D,aS,rfl,dP,dh,E2,Fx,qc,fa,ae⟩:=hrel;by_cases aD:j<bE.length
  ·have cL:(j:Int)<(bE.length:Int):=r;obtain⟨VZ,an⟩:=w1.out _ dP.out;obtain⟨g,rfl⟩:∃g,ka=some ⟨g,0,none⟩:=by
    rcases an.2 with⟨e,aw⟩ | ⟨g,af,ay,e,_⟩
    ·omega
    ·injection e with Y _ _;exact⟨g,Y⟩
   have iV:=an.cells rfl j bE[j].2 (by rw[List.getElem?_map,fC aD];rfl);rw[Addr.add_lit,ax1] at iV;have V0:=u (jF.out wr j aD dP.out);have akF:=AD.out _ (ec aD);have jl:=Fw.out _ (ec aD);have w7:Hid (sY (bE.take (j+1))=uy (sY (bE.take j)).1 (sY (bE.take j)).2 bE[j].1 bE[j].2):=u (by rw[jD aD,akD]);have Oo:Hid (keyOf prog 9 (.string (a7 bE[j].1))=some (.string bE[j].1)):=u (by
    have h1:(a7 bE[j].1).size<=maxLen:=by show(bE[j].1.toArray).size<=maxLen;unfold maxLen;simp only[List.size_toArray];omega
    have:=Go.WideMaps.keyOf_string_mk (P:=prog) underlying9 h1;rw[this];simp[a7])
   have fr:IntKind.i64.wrap ((j:Int)+1)=(j:Int)+1:=mC;obtain⟨bf,gc,qn⟩:=cG dh.out.out;subst qn;have ch:=u ae;have vy:=u aD;have akG:Hid (j<maxLen):=u (by unfold maxLen;omega);clear an ae jl jF AD Fw;generalize akH:bE[j].1=bV at *;generalize akI:bE[j].2=eF at *;clear akH akI;obtain⟨gB,cH,dz,rfl⟩:=akF;have V1:Hid ((Value.slice gB cH dz).oneCell'=true):=u rfl;generalize sY (bE.take j)=akJ at *;obtain⟨ks,gs⟩:=akJ;simp only[] at Fx qc fa w7;obtain⟨kz,nu,DG⟩:=fa.out;cases rB:ks.findIdx? (fun k=>decide (k=bV)) with
   | none=>
    have akK:=Fx.out.no bV rB;have mo:=u (Fx.out.put rB);have Oq:=u rB;clear rB;go_upto_region 7 with(go_at_call 165;refine V0.out.mono ?_;rintro e J ⟨rfl,Fy,c4⟩);have uw:=u (dh.out.stays c4);have yK:=u (Fu E2.out (c4.maps _));have yz:=u Fy;clear Fy iV;generalize a7 bV=c0 at *;go_upto_region 10 with(at_lookup;refine wpList_lookup_own_ok_int _ rfl _ _ 256 rfl 9 3 .i64 On underlying256 underlying3 (VY _) w.heap.size j D rfl yK.out _ _ rfl Oo.out ?_;intro c dl uj);clear dl uj;have tN:(Lit.int IntKind.i64 (xs.length:Int)).wf=true:=WalkArith.wf_i64 (n:=xs.length) r;go_upto_region 11 with(at_mapUpdate;refine wpList_mapUpdate_own _ rfl _ _ _ 256 rfl 9 3 On underlying256 _ w.heap.size j _ rfl yK.out akG.out _ _ _ rfl rfl Oo.out _ [] (plainElem_int underlying3 tN) ?_;intro S Iq bC)
    have akL:=u Iq;obtain⟨es,yL,Ot,-⟩:=yK.out;have lT:=u (uw.out.mapped Ot bC);have tF:ux w.heap.size J S:=⟨bC.os,bC.tape,bC.output,bC.size,fun k hk=>by
     by_cases e:k=w.heap.size
     ·subst e;exact .inr ⟨ap,.inr ⟨es,yL,Ot⟩⟩
     ·exact .inl (bC.block k hk (by intro h;injection h with h;exact e h))⟩
    have o0:w.heap.size<=S.heap.size:=bX VZ (bX c4.size bC.size);obtain⟨v3,aA,ir,qw,Bm,uz⟩:=lT.out.more o0 r;obtain⟨asW,asX,akM⟩:=cG qw.out;subst akM;have akN:=u (Fv.out _ _ yz.out (tF.trans Bm));have akO:=u (Fu akL.out (uz _));have xM:w.heap.size<=aA.heap.size:=bX o0 Bm.size;obtain⟨g4,akP,v4,bI,rN,xP,Ou,Ov,lN,Ow,akQ,akR,tu,Fz,qd⟩:=qw.put xM xs.length (by rw[cu];simp) (by rw[List.getElem_append_right ap];simp) (.slice gB cH dz) V1.out;have AE:=u tu;have Ox:=u (Fv.out _ _ akN.out Fz);have Oy:=u (Fu akO.out (qd _));clear Iq tu Fz qd qw Bm uz tF Ot bC c4 uw yK;have qB:(xs++[((.slice none 0 0:Value),([]:List Value))]).length=xs.length+1:=by rw[cu];rfl
    have FA:(xs++[((.slice none 0 0:Value),([]:List Value))])[xs.length]'(by rw[qB];omega)=(.slice none 0 0,[]):=by rw[List.getElem_append_right ap];simp
    have V2:∀y,(xs++[((.slice none 0 0:Value),([]:List Value))]).set xs.length y=xs++[y]:=fun y=>by rw[List.set_append_right _ _ ap,Nat.sub_self];rfl
    rw[V2] at AE;simp only[FA,List.nil_append] at xP lN Ow AE;rw[qB] at ir rN AE;injection rN with Y am bm;subst Y bm;clear V2 FA Ou am qB;obtain⟨Oz,OA,OB,rfl⟩:=Ov;have BV:=u ir;have OC:=u lN;clear ir lN;have cn:(xs.length:Int)<(xs.length:Int)+1:=r;have i2:((xs.length+1:Nat):Int)=(xs.length:Int)+1:=by push_cast;rfl
    go_upto_region 12 with(at_builtin;refine Lib.wpList_append_run _ rfl _ _ _ _ rfl _ _ rfl rfl _ _ (BV.out _) ?_);go_wp2_with (at_builtin;refine Lib.wpList_append_run _ rfl _ _ _ _ rfl _ _ rfl rfl _ _ (OC.out _) ?_);have ae:=ch.out;go_roundg (gk-1);case measure=>omega
    case rel=>
     have ww:uy ks gs bV (.slice gB cH dz)=(ks++[bV],gs++[[.slice gB cH dz]]):=by unfold uy;rw[Oq.out]
     refine⟨j+1,xs++[(.slice Oz OA OB,[.slice gB cH dz])],_,by have:=vy.out;omega,by go_num,Ox,u ?_,Oy,u ?_,u ?_,u ⟨?_,?_,?_⟩,r⟩
     ·first | exact AE.out | (have:=AE.out;push_cast at this ⊢;exact this)
     ·rw[w7.out,ww];have:=mo.out;rw[kz] at this;exact this
     ·rw[w7.out,ww,List.map_append,qc.out];rfl
     ·rw[w7.out,ww,cu,cu];show ks.length+1=xs.length+1;omega
     ·rw[cu];show xs.length+1<=_;omega
     ·intro x aa;rcases ax5 aa with aa | aa
      ·have:=DG x aa;omega
      ·obtain rfl:=ic aa;show 1<=_;omega
   | some i=>
    have BF:i<xs.length:=by have:=(List.findIdx?_eq_some_iff_getElem.1 rB).1;omega
    obtain⟨akK,uA⟩:=Fx.out.yes bV i rB;have Oq:=u rB;have IY:=u uA;clear rB uA;go_upto_region 7 with(go_at_call 165;refine V0.out.mono ?_;rintro e J ⟨rfl,Fy,c4⟩);have uw:=u (dh.out.stays c4);have yK:=u (Fu E2.out (c4.maps _));have yz:=u Fy;clear Fy iV;generalize a7 bV=c0 at *;go_upto_region 12 with(at_lookup;refine wpList_lookup_own_ok_int _ rfl _ _ 256 rfl 9 3 .i64 On underlying256 underlying3 (VY _) w.heap.size j D rfl yK.out _ _ rfl Oo.out ?_;intro c dl uj;obtain rfl:c=(i:Int):=(by rw[IY.out] at dl;injection dl with dl;injection dl with _ dl;exact dl.symm));have Lh:w.heap.size<=J.heap.size:=bX VZ c4.size
    obtain⟨g4,akP,v4,bI,rN,xP,⟨akz,kI,akA,Ou⟩,Ov,lN,Ow,akQ,akR,tu,Fz,qd⟩:=uw.out.put Lh i BF (by have:=DG _ (ec BF);omega) (.slice gB cH dz) V1.out;have AE:=u tu;have Ox:=u (Fv.out _ _ yz.out Fz);have Oy:=u ((Fu yK.out (qd _)).mono (Nat.le_succ j));clear tu Fz qd c4 uw yK dl uj;rw[Ou] at xP lN Ow;injection rN with Y am bm;subst Y bm;clear am;obtain⟨Oz,OA,OB,rfl⟩:=Ov;have OC:=u lN;clear lN;have cn:(i:Int)<(xs.length:Int):=r;go_wp2_with (at_builtin;refine Lib.wpList_append_run _ rfl _ _ _ _ rfl _ _ rfl rfl _ _ (OC.out _) ?_);have ae:=ch.out;go_roundg (gk-1);case measure=>omega
    case rel=>
     have ww:uy ks gs bV (.slice gB cH dz)=(ks,gs.set i (gs.getD i []++[.slice gB cH dz])):=by unfold uy;rw[Oq.out]
     have ko:gs.getD i []=xs[i].2:=by rw[<-qc.out,List.getD_eq_getElem?_getD,List.getElem?_map,fC BF];rfl
     refine⟨j+1,xs.set i (.slice Oz OA OB,xs[i].2++[.slice gB cH dz]),D,by have:=vy.out;omega,by go_num,Ox,u ?_,Oy,u ?_,u ?_,u ⟨?_,?_,?_⟩,r⟩
     ·exact AE.out
     ·rw[w7.out,ww];exact Fx.out
     ·rw[w7.out,ww,ko,List.map_set,qc.out]
     ·rw[w7.out,ww,List.length_set];exact kz
     ·rw[List.length_set];omega
     ·intro x aa;rcases List.mem_or_eq_of_mem_set aa with aa | rfl
      ·have:=DG x aa;omega
      ·show(xs[i].2++[_]).length<=_;rw[cu];have:=DG _ (ec BF);show _+1<=_;omega
  ·have eZ:j=bE.length:=r;subst eZ;have cL:(bE.length:Int)<=(bE.length:Int):=r;clear ae aD jF AD Fw w1 Fv Cd;go_wp2_with fail;go_ret;exact⟨_,xs,rfl,dP.out,dh.out,by rw[qc.out,List.take_length]⟩
