import Derived.Test.YtjebdgbpopolkaaGreatDoorM00a
set_option maxHeartbeats 0
set_option maxRecDepth 100000
set_option linter.all false
namespace bS
variable{s:e6}{F N e f g j k m n t2 tag:Nat}{inner last p C t:List UInt8}{c:UInt8}{b ks:List Nat}{l ts:e4}{O:Int}{T:List (List UInt8)}
def isLet(c:UInt8):Bool:=decide (97<=c.toNat)&&decide (c.toNat<=122)
def cI(c:UInt8):Bool:=decide (48<=c.toNat)&&decide (c.toNat<=57)
def nm:List (List UInt8):=[[115,101,108,101,99,116],[102,114,111,109],[119,104,101,114,101],[103,114,111,117,112],[98,121],[104,97,118,105,110,103],[97,110,100],[111,114],[110,111,116],[105,115],[110,117,108,108],[101,120,105,115,116,115],[99,111,117,110,116],[115,117,109],[109,105,110],[109,97,120],[110,111,119],[119,105,116,104,105,110],[101,118,101,114]]
def jX(s:List UInt8):Bool:=nm.contains s
def yU(s:List UInt8):Bool:=s.all isLet&&!s.isEmpty
def iP(s:List UInt8):Bool:=yU s&&!jX s&&decide (s.length<=6)
def jf(s:List UInt8):Bool:=s.all (fun c=>isLet c||cI c)&&decide (s.length<=8)
def oQ(s:List UInt8):Nat:=s.foldl (fun n c=>10*n+(c.toNat-48)) 0
def lJ(neg:Bool)(s:List UInt8):Bool:=decide (1<=s.length)&&decide (s.length<=13)&&!(s.head?==some 48&&(decide (1<s.length)||neg))&&s.all cI
def q4(Y4:Int)(neg:Bool)(C:List UInt8):Int×Bool:=if lJ neg C then (Y4*(oQ C:Int),decide (oQ C<=1000000000000)) else (0,false)
def ps(s:List UInt8):Int×Bool:=if s.head?=some 45 then q4 (-1) true s.tail else q4 1 false s
def sa(s:List UInt8):Bool:=(ps s).2
def yV(t:List UInt8):Bool:=t.isEmpty||jX t||[[40],[44],[61],[60],[62],[43],[45],[42]].contains t
def Y5(s:List UInt8)(c:UInt8):oQ (s++[c])=10*oQ s+(c.toNat-48):=by simp[oQ]
def Y6(s:List UInt8):∀(a:Nat),s.all cI=true->s.foldl (fun n c=>10*n+(c.toNat-48)) a<(a+1)*10 ^ s.length:=by
 induction s with
 | nil=>intro a _;simp
 | cons c C aH=>intro a h;rw[List.all_cons,Bool.and_eq_true] at h;have ai:=h.1;simp only[cI,Bool.and_eq_true,decide_eq_true_eq] at ai;have h1:=aH (10*a+(c.toNat-48)) h.2;rw[List.foldl_cons,di,Nat.pow_succ];refine e0 h1 ?_;rw[Nat.mul_comm (10 ^ C.length) 10,<-Nat.mul_assoc];exact Nat.mul_le_mul_right _ r
def Y7(s:List UInt8)(h:s.all cI=true):oQ s<10 ^ s.length:=by have:=Y6 s 0 h;simpa [oQ] using this
def sub(s:e6)(a e:Nat):List UInt8:=(s.extract a e).data.toList
def cR(p:UInt8->Bool)(s:e6)(j:Nat):Nat:=j+((s.data.toList.drop j).takeWhile p).length
def gG(c:UInt8):Bool:=!(c==39)
def gw:List UInt8:=[40,41,44,46,61,60,62,43,45,42]
def pt(s:e6)(k:Nat)(last:List UInt8):Bool:=s[k]! == 45&&yV last&&decide (k+1<s.size)&&cI s[k+1]!
def kW(s:e6)(k:Nat)(last:List UInt8):Option (Option (List UInt8)×Nat):=if s[k]! == 32 then some (none,k+1) else if isLet s[k]! then
  (if jX (sub s k (cR isLet s (k+1)))||decide (cR isLet s (k+1)-k<=6) then some (some (sub s k (cR isLet s (k+1))),cR isLet s (k+1)) else none)
 else if cI s[k]! || pt s k last then
  (if sa (sub s k (cR cI s (k+1))) then some (some (sub s k (cR cI s (k+1))),cR cI s (k+1)) else none)
 else if s[k]! == 39 then
  (if decide (cR gG s (k+1)<s.size)&&jf (sub s (k+1) (cR gG s (k+1))) then some (some (sub s k (cR gG s (k+1)+1)),cR gG s (k+1)+1) else none)
 else if gw.contains s[k]! then some (some (sub s k (k+1)),k+1)
 else none
def oR(s:e6):Nat->Nat->List UInt8->Option (List (List UInt8))
 | 0,_,_=>none
 | f+1,k,last=>if k<s.size then (match kW s k last with
  | none=>none
  | some (none,jY)=>oR s f jY last
  | some (some t,jY)=>(oR s f jY t).map (t :: ·)) else some []
def ku(s:e6):Option (List (List UInt8)):=oR s (s.size+1) 0 []
def s4(s:e6):s.data.toList.length=s.size:=by rw[ax7];rfl
def pu(s:e6)(k:Nat)(h:k<s.size):s[k]! = s[k]:=by rw[getElem!_pos s k h]
def A2(s:e6)(j:Nat)(h:j<s.size):s.data.toList.drop j=s[j]::s.data.toList.drop (j+1):=by rw[List.drop_eq_getElem_cons (by rw[s4];exact h)];rfl
def yW(p:UInt8->Bool)(s:e6)(j:Nat)(h:j<s.size)(aj:p s[j]=true):cR p s j=cR p s (j+1):=by rw[cR,A2 s j h,List.takeWhile_cons_of_pos aj,di,cR];omega
def C7(p:UInt8->Bool)(s:e6)(j:Nat)(h:j<s.size)(aj:p s[j]=false):cR p s j=j:=by rw[cR,A2 s j h,List.takeWhile_cons_of_neg (by simp[aj])];rfl
def Gf(p:UInt8->Bool)(s:e6)(j:Nat)(h:¬j<s.size):cR p s j=j:=by rw[cR,List.drop_eq_nil_of_le (by rw[s4];omega)];rfl
def pv(p:UInt8->Bool)(s:e6)(j:Nat):j<=cR p s j:=Nat.le_add_right _ _
def Y8(p:UInt8->Bool)(l:List UInt8):(l.takeWhile p).length<=l.length:=(List.takeWhile_prefix p).length_le
def s5(p:UInt8->Bool)(s:e6)(j:Nat)(h:j<=s.size):cR p s j<=s.size:=by have:=Y8 p (s.data.toList.drop j);rw[List.length_drop,s4] at this;rw[cR];omega
def A3{x:Option (List UInt8)×Nat}(hk:k<s.size)(h:kW s k last=some x):k<x.2/\x.2<=s.size:=by
 have h1:=pv isLet s (k+1);have H:=pv cI s (k+1);have ab:=pv gG s (k+1);have Y:=s5 isLet s (k+1) hk;have am:=s5 cI s (k+1) hk;unfold kW at h;repeat' split at h
 all_goals first | (cases h;done) | (obtain rfl:=bx h;simp_all<;>omega)
def dn(t:List UInt8):Nat:=if jX t then 14+nm.idxOf t else if t.length=1/\gw.contains (t.headD 0)=true then 4+gw.idxOf (t.headD 0) else if t.head?=some 39 then 3 else if iP t then 1 else if sa t then 2 else 0
def qm(k:Nat):List UInt8:=if k<14 then [gw.getD (k-4) 0] else nm.getD (k-14) []
def Gg(h:jX t=true):∃i,i<19/\t=nm.getD i []/\nm.idxOf t=i:=by
 have cC:t∈nm:=by simpa [jX] using h
 simp only[nm,List.mem_cons,ax4,or_false] at cC;rcases cC with h | h | h | h | h | h | h | h | h | h | h | h | h | h | h | h | h | h | h<;>subst h
 ·exact⟨0,K,K,K⟩
 ·exact⟨1,K,K,K⟩
 ·exact⟨2,K,K,K⟩
 ·exact⟨3,K,K,K⟩
 ·exact⟨4,K,K,K⟩
 ·exact⟨5,K,K,K⟩
 ·exact⟨6,K,K,K⟩
 ·exact⟨7,K,K,K⟩
 ·exact⟨8,K,K,K⟩
 ·exact⟨9,K,K,K⟩
 ·exact⟨10,K,K,K⟩
 ·exact⟨11,K,K,K⟩
 ·exact⟨12,K,K,K⟩
 ·exact⟨13,K,K,K⟩
 ·exact⟨14,K,K,K⟩
 ·exact⟨15,K,K,K⟩
 ·exact⟨16,K,K,K⟩
 ·exact⟨17,K,K,K⟩
 ·exact⟨18,K,K,K⟩
def PY(h1:t.length=1)(h:gw.contains (t.headD 0)=true):∃i,i<10/\t=[gw.getD i 0]/\gw.idxOf (t.headD 0)=i:=by
 match t,h1 with
 | [c],_=>
  have cC:c∈gw:=by simpa using h
  simp only[gw,List.mem_cons,ax4,or_false] at cC;rcases cC with h | h | h | h | h | h | h | h | h | h<;>subst h
  ·exact⟨0,K,K,K⟩
  ·exact⟨1,K,K,K⟩
  ·exact⟨2,K,K,K⟩
  ·exact⟨3,K,K,K⟩
  ·exact⟨4,K,K,K⟩
  ·exact⟨5,K,K,K⟩
  ·exact⟨6,K,K,K⟩
  ·exact⟨7,K,K,K⟩
  ·exact⟨8,K,K,K⟩
  ·exact⟨9,K,K,K⟩
def Y9:∀k,k<33->4<=k->dn (qm k)=k:=K
def PZ(t:List UInt8)(k:Nat)(aK:4<=k)(hk:k<33):dn t=k↔t=qm k:=by
 refine⟨fun h=>?_,fun h=>by rw[h];exact Y9 k hk aK⟩;unfold dn at h;by_cases a:jX t=true
 ·rw[if_pos a] at h;obtain⟨i,hi,au,aa⟩:=Gg a;rw[aa] at h;rw[qm,if_neg r,au];congr 1;omega
 ·rw[if_neg a] at h;by_cases c:t.length=1/\gw.contains (t.headD 0)=true
  ·rw[if_pos c] at h;obtain⟨i,hi,au,aa⟩:=PY c.1 c.2;rw[aa] at h;rw[qm,if_pos r,au];congr 2;omega
  ·rw[if_neg c] at h;repeat' split at h
   all_goals omega
def Za(h:iP t=true):jX t=false:=by simp[iP] at h;exact h.1.2
def P0(h:iP t=true):∃c C,t=c::C/\isLet c=true:=by
 simp[iP,yU] at h;match t with
 | []=>simp at h
 | c::C=>exact⟨c,C,rfl,by simp at h;exact h.1.1.1⟩
def P1(h:isLet c=true):gw.contains c=false/\c≠39/\cI c=false/\c≠45:=by
 simp[isLet] at h;refine⟨?_,?_,?_,?_⟩
 ·simp[gw,<-UInt8.toNat_inj];omega
 ·intro e;rw[e] at h;simp at h
 ·simp[cI];omega
 ·intro e;rw[e] at h;simp at h
def Zb(t:List UInt8):dn t=1↔iP t=true:=by
 constructor
 ·intro h;unfold dn at h;repeat' split at h
  all_goals first | assumption | omega
 ·intro h;obtain⟨c,C,rfl,ai⟩:=P0 h;obtain⟨h1,H,_⟩:=P1 ai;unfold dn;rw[if_neg (by rw[Za h];simp),if_neg (fun e=>by have am:gw.contains c=true:=e.2;rw[h1] at am;cases am),if_neg (by simpa using H),if_pos h]
def Zc(t:List UInt8):dn t=3↔t.head?=some 39:=by
 constructor
 ·intro h;unfold dn at h;repeat' split at h
  all_goals first | assumption | omega
 ·intro h;match t,h with
  | c::C,h=>
   obtain rfl:c=39:=by simpa using h
   unfold dn;rw[if_neg,if_neg (by simp[gw]),if_pos (by rfl)];intro e;obtain⟨i,hi,au,_⟩:=Gg e;have:∀i,i<19->(nm.getD i []).head?≠some 39:=K;exact this i hi (by rw[<-au];rfl)
def Zd(h:sa t=true):∃c C,t=c::C/\(cI c=true\/c=45/\C≠[]):=by
 unfold sa ps at h;match t with
 | []=>simp[q4,lJ] at h
 | c::C=>
  refine⟨c,C,rfl,?_⟩;by_cases e:c=45
  ·subst e;refine Or.inr ⟨rfl,fun e=>?_⟩;subst e;simp[q4,lJ] at h
  ·rw[if_neg (by simpa using e)] at h;unfold q4 at h;split at h
   ·rename_i bb;simp[lJ] at bb;exact Or.inl bb.2.1
   ·simp at h
def Ze(t:List UInt8):dn t=2↔sa t=true:=by
 constructor
 ·intro h;unfold dn at h;repeat' split at h
  all_goals first | assumption | omega
 ·intro h;obtain⟨c,C,rfl,ai⟩:=Zd h;unfold dn;have X:isLet c=false:=by
   cases e:isLet c
   ·rfl
   ·obtain⟨_,_,ab,aK⟩:=P1 e;rcases ai with ai | ai
    ·rw[ab] at ai;cases ai
    ·exact absurd ai.1 aK
  have pw:jX (c::C)=false:=by
   cases e:jX (c::C)
   ·rfl
   ·obtain⟨i,hi,au,_⟩:=Gg e;have:∀i,i<19->((nm.getD i []).head?.any isLet)=true:=K;have:=this i hi;rw[<-au] at this;simp[X] at this
  rw[if_neg (by rw[pw];simp),if_neg,if_neg,if_neg,if_pos h]
  ·intro e;obtain⟨e7,lK,h1,H⟩:=P0 e;obtain⟨rfl,rfl⟩:c=e7/\C=lK:=by simpa using h1
   rw[X] at H;cases H
  ·intro e;obtain rfl:c=39:=by simpa using e
   rcases ai with ai | ai
   ·simp[cI] at ai
   ·exact absurd ai.1 K
  ·rintro⟨h1,H⟩;obtain rfl:C=[]:=by simpa using h1
   rcases ai with ai | ai
   ·simp[cI] at ai;simp[gw,<-UInt8.toNat_inj] at H;omega
   ·exact ai.2 rfl
def fx(k:Nat):List Nat->Option (List Nat)
 | []=>none
 | h::C=>if h=k then some C else none
def mb(ks:List Nat):Option (List Nat):=(fx 1 ks).bind fun a=>(fx 7 a).bind (fx 1)
def yX:Nat->List Nat->Option (List Nat)
 | 0,_=>none
 | f+1,ks=>(fx 1 ks).bind fun a=>(fx 1 a).bind fun b=>match b with | 6::C=>yX f C | _=>some b
def xr:Nat->List Nat->Option (List Nat)
 | 0,_=>none
 | f+1,ks=>(mb ks).bind fun b=>match b with | 6::C=>xr f C | _=>some b
def s6:Int->List Nat->Bool
 | _,[]=>false
 | o,k::C=>if (k=20\/k=21)/\o=1 then true else if (if k=4 then o+1 else if k=5 then o-1 else o)=0 then false else s6 (if k=4 then o+1 else if k=5 then o-1 else o) C
def cm:Nat->Nat->List Nat->Int->Option (List Nat×Int)
 | 0,_,_,_=>none
 | f+1,0,ks,aq=>
  if ks.headD 0=24\/ks.headD 0=30\/ks.headD 0=2\/ks.headD 0=3 then some (ks.tail,aq)
  else if 26<=ks.headD 0/\ks.headD 0<=29 then
   (fx 4 ks.tail).bind fun aI=>if ks.headD 0=26/\aI.headD 0=13 then (fx 5 aI.tail).bind fun aZ=>some (aZ,aq) else (cm f 0 aI (aq+1)).bind fun x=>(fx 5 x.1).bind fun a6=>some (a6,max aq x.2)
  else if ks.headD 0=4 then
   (cm f 0 ks.tail (aq+1)).bind fun x=>if x.1.headD 0=11\/x.1.headD 0=12\/x.1.headD 0=13 then
    (cm f 0 x.1.tail (aq+1)).bind fun y=>(fx 5 y.1).bind fun a6=>some (a6,max aq (max x.2 y.2)) else none
  else (mb ks).bind fun aI=>some (aI,aq)
 | f+1,1,ks,aq=>
  if ks.headD 0=22 then (cm f 1 ks.tail (aq+1)).bind fun x=>some (x.1,max aq x.2)
  else if ks.headD 0=25 then (fx 4 ks.tail).bind fun aI=>(cm f 2 aI (aq+1)).bind fun x=>(fx 5 x.1).bind fun a6=>some (a6,max aq x.2)
  else if ks.headD 0=4/\s6 0 ks=true then
   (cm f 1 ks.tail (aq+1)).bind fun x=>if x.1=[] then none else (cm f 1 x.1.tail (aq+1)).bind fun y=>(fx 5 y.1).bind fun a6=>some (a6,max aq (max x.2 y.2))
  else if ks=[] then none
  else (cm f 0 ks (aq+1)).bind fun x=>
   if x.1.headD 0=8\/x.1.headD 0=9\/x.1.headD 0=10 then (cm f 0 x.1.tail (aq+1)).bind fun y=>some (y.1,max aq (max x.2 y.2))
   else if x.1.headD 0=23 then (fx 24 x.1.tail).bind fun a6=>some (a6,max aq x.2) else none
 | f+1,2,ks,aq=>(fx 14 ks).bind fun gm=>(cm f 3 gm (aq+1)).bind fun x=>(fx 15 x.1).bind fun aZ=>(yX (aZ.length+1) aZ).bind fun a6=>(if a6.headD 0=16 then cm f 1 a6.tail (aq+1) else some (a6,aq)).bind fun y=>(if y.1.headD 0=17 then (fx 18 y.1.tail).bind fun dt=>xr (dt.length+1) dt else some y.1).bind fun e8=>(if e8.headD 0=19 then cm f 1 e8.tail (aq+1) else some (e8,aq)).bind fun z=>some (z.1,max aq (max x.2 (max y.2 z.2)))
 | f+1,3,ks,aq=>(cm f 0 ks aq).bind fun x=>if x.1.headD 0=6 then (cm f 3 x.1.tail aq).bind fun y=>some (y.1,max x.2 y.2) else some x
 | _+1,_+4,_,_=>none
def oS:Int->List Nat->Bool
 | _,[]=>false
 | o,k::C=>if k=20\/k=21 then true else if (if k=4 then o+1 else if k=5 then o-1 else o)=0 then false else oS (if k=4 then o+1 else if k=5 then o-1 else o) C
def eF:Nat->Nat->List Nat->Option (List Nat×Nat)
 | 0,_,_=>none
 | f+1,0,ks=>
  if ks.headD 0=1 then (mb ks).bind fun aI=>some (aI,1)
  else if ks.headD 0=30 then some (ks.tail,1)
  else if ks.headD 0=4 then
   (eF f 0 ks.tail).bind fun x=>if x.1.headD 0=11\/x.1.headD 0=12\/x.1.headD 0=13 then
    (eF f 0 x.1.tail).bind fun y=>(fx 5 y.1).bind fun a6=>some (a6,1+max x.2 y.2) else none
  else if 26<=ks.headD 0/\ks.headD 0<=29 then
   (fx 4 ks.tail).bind fun aI=>if ks.headD 0=26/\aI.headD 0=13 then (fx 5 aI.tail).bind fun aZ=>some (aZ,1) else (eF f 0 aI).bind fun x=>(fx 5 x.1).bind fun a6=>some (a6,1+x.2)
  else if ks.headD 0=2\/ks.headD 0=3\/ks.headD 0=24 then some (ks.tail,1)
  else none
 | f+1,1,ks=>
  if ks.headD 0=22 then (eF f 1 ks.tail).bind fun x=>some (x.1,1+x.2)
  else if ks.headD 0=25 then (fx 4 ks.tail).bind fun aI=>(eF f 2 aI).bind fun x=>(fx 5 x.1).bind fun a6=>some (a6,1+x.2)
  else if ks.headD 0=4/\oS 0 ks=true then
   (eF f 1 ks.tail).bind fun x=>if x.1.headD 0=20\/x.1.headD 0=21 then (eF f 1 x.1.tail).bind fun y=>(fx 5 y.1).bind fun a6=>some (a6,1+max x.2 y.2) else none
  else (eF f 0 ks).bind fun x=>
   if x.1.headD 0=23 then (fx 24 x.1.tail).bind fun a6=>some (a6,1+x.2)
   else if x.1.headD 0=8\/x.1.headD 0=9\/x.1.headD 0=10 then (eF f 0 x.1.tail).bind fun y=>some (y.1,1+max x.2 y.2) else none
 | f+1,2,ks=>(fx 14 ks).bind fun gm=>(eF f 3 gm).bind fun x=>(fx 15 x.1).bind fun aZ=>(yX (aZ.length+1) aZ).bind fun a6=>(if a6.headD 0=16 then eF f 1 a6.tail else some (a6,0)).bind fun y=>(if y.1.headD 0=17 then (fx 18 y.1.tail).bind fun dt=>xr (dt.length+1) dt else some y.1).bind fun e8=>(if e8.headD 0=19 then eF f 1 e8.tail else some (e8,0)).bind fun z=>some (z.1,1+max x.2 (max y.2 z.2))
 | f+1,3,ks=>(eF f 0 ks).bind fun x=>if x.1.headD 0=6 then (eF f 3 x.1.tail).bind fun y=>some (y.1,max x.2 y.2) else some x
 | _+1,_+4,_=>none
def s7(sb:List Nat)(e:Nat):Prop:=∀l:Int,1<=l->∀rest,s6 l (sb++rest)=s6 (l+e) rest
def s7.nil:s7 [] 0:=fun l _ rest=>by simp
def s7.app{a:List Nat}(h1:s7 a e)(H:s7 b g):s7 (a++b) (e+g):=fun l X rest=>by rw[List.append_assoc,h1 l X,H (l+e) r];congr 1;omega
def Zf(aK:k≠4)(cO:k≠5)(yY:k≠20)(P2:k≠21){l:Int}(X:1<=l)(rest:List Nat):s6 l (k::rest)=s6 l rest:=by rw[s6,if_neg r,if_neg aK,if_neg cO,if_neg r]
def ayE{l:Int}(X:0<=l)(rest:List Nat):s6 l (4::rest)=s6 (l+1) rest:=by rw[s6,if_neg r,if_pos rfl,if_neg r]
def ayF{l:Int}(X:2<=l)(rest:List Nat):s6 l (5::rest)=s6 (l-1) rest:=by
 have e:(if (5:Nat)=4 then l+1 else if (5:Nat)=5 then l-1 else l)=l-1:=by simp
 rw[s6,if_neg r,e,if_neg r]
def ayG(hk:k=20\/k=21){l:Int}(X:2<=l)(rest:List Nat):s6 l (k::rest)=s6 l rest:=by rw[s6,if_neg r,if_neg r,if_neg r,if_neg r]
def s7.one(aK:k≠4)(cO:k≠5)(yY:k≠20)(P2:k≠21):s7 [k] 0:=fun l X rest=>by show s6 l (k::rest)=_;rw[Zf aK cO yY P2 X];simp
def C8{C:List Nat}(h:fx k ks=some C):ks=k::C:=by
 match ks,h with
 | a::t,h=>
  by_cases e:a=k
  ·have cC:fx k (a::t)=some t:=by simp[fx,e]
   rw[cC] at h;obtain rfl:=bx h;rw[e]
  ·have cC:fx k (a::t)=none:=by simp[fx,e]
   rw[cC] at h;cases h
def P3(h:ks.headD 0=k)(hk:k≠0):ks=k::ks.tail:=by
 match ks,h with
 | [],h=>exact absurd h.symm hk
 | a::C,h=>rw[show a=k from h];rfl
def Zg{C:List Nat}(h:mb ks=some C):ks=[1,7,1]++C/\s7 [1,7,1] 0:=by unfold mb at h;obtain⟨a,ak,h⟩:=aV h;obtain⟨c,ai,h⟩:=aV h;refine⟨by rw[C8 ak,C8 ai,C8 h];rfl,?_⟩;exact((s7.one (k:=1) K K K K).app (s7.one (k:=7) K K K K)).app (s7.one (k:=1) K K K K)
def s7.pair{a:List Nat}(hk:k=20\/k=21)(h1:s7 a e)(H:s7 b g):s7 (4::(a++k::b)++[5]) (e+g):=fun l X rest=>by show s6 l (4::(((a++k::b)++[5])++rest))=_;rw[ayE r,List.append_assoc,List.append_assoc,h1 (l+1) r];show s6 _ (k::(b++([5]++rest)))=_;rw[ayG hk r,H _ r];show s6 _ (5::rest)=_;rw[ayF r];congr 1;omega
structure al where
 kind:Nat
 num:Int
 du:List UInt8
variable{row:Nat×List al}{P:Nat×List al->Prop}
abbrev je:=List (Nat×List al)
variable{aG:List (je)}{Q:je->Prop}{gs:List (List (je))}
def al.zero:al:=⟨0,0,[]⟩
def fy(s:List UInt8):al×Bool:=if s=[110,117,108,108] then (al.zero,true) else if s.head?=some 39 then (if s.tail.getLast?=some 39/\jf s.tail.dropLast=true then (⟨2,0,s.tail.dropLast⟩,true) else (al.zero,false)) else if (ps s).2 then (⟨1,(ps s).1,[]⟩,true) else (al.zero,false)
inductive aL where
 | nil
 | cons (h t:aL)
 | node (kind:Nat) (src name:e6) (val:al) (parts query:aL)
 | query (exprs:aL) (sources:lh) (wh bF uR:aL)
variable{x:e4×aL}{a h U:aL}
def dep:aL->Nat
 | .nil=>0
 | .cons h t=>max (dep h) (dep t)
 | .node _ _ _ _ p .nil=>1+dep p
 | .node _ _ _ _ _ U=>1+dep U
 | .query e _ w g h=>1+max (dep e) (max (dep g) (max (dep w) (dep h)))
def iQ(k:Nat)(parts:aL):aL:=.node k ⟨#[]⟩ ⟨#[]⟩ al.zero parts .nil
def dD(t:e6):Nat:=dn t.data.toList
def hk(ts:e4):Nat:=(ts.map dD).headD 0
def md:List Nat:=[0,0,0,0,0,0,0,0,16,17,18,4,5,6,0,0,0,0,0,0,12,13,0,0,0,0,8,9,10,11]
def dq(k:Nat):e4->Option (e6×e4)
 | []=>none
 | h::C=>if dD h=k then some (h,C) else none
def hp(ts:e4):Option (e4×aL):=(dq 1 ts).bind fun a=>(dq 7 a.2).bind fun aq=>(dq 1 aq.2).bind fun b=>some (b.2,.node 1 a.1 b.1 al.zero .nil .nil)
def hP(ts:e4):Option (e4×(e6×e6)):=(dq 1 ts).bind fun a=>(dq 1 a.2).bind fun b=>some (b.2,(a.1,b.1))
def eM:Nat->e4->Option (e4×lh)
 | 0,_=>none
 | f+1,ts=>(hP ts).bind fun x=>if hk x.1=6 then (eM f x.1.tail).bind fun y=>some (y.1,x.2::y.2) else some (x.1,[x.2])
def gV(P:Nat->e4->Option (e4×aL)):Nat->e4->Option (e4×aL)
 | 0,_=>none
 | f+1,ts=>(P f ts).bind fun x=>if hk x.1=6 then (gV P f x.1.tail).bind fun y=>some (y.1,.cons x.2 y.2) else some (x.1,.cons x.2 .nil)
def bP:Nat->Nat->e4->Option (e4×aL)
 | 0,_,_=>none
 | f+1,0,ts=>
  if hk ts=1 then hp ts
  else if hk ts=30 then some (ts.tail,iQ 3 .nil)
  else if hk ts=4 then
   (bP f 0 ts.tail).bind fun x=>if hk x.1=11\/hk x.1=12\/hk x.1=13 then
    (bP f 0 x.1.tail).bind fun y=>(dq 5 y.1).bind fun z=>some (z.2,iQ (md.getD (hk x.1) 0) (.cons x.2 (.cons y.2 .nil))) else none
  else if 26<=hk ts/\hk ts<=29 then
   (dq 4 ts.tail).bind fun a=>if hk ts=26/\hk a.2=13 then (dq 5 a.2.tail).bind fun z=>some (z.2,iQ 7 .nil) else (bP f 0 a.2).bind fun x=>(dq 5 x.1).bind fun z=>some (z.2,iQ (md.getD (hk ts) 0) (.cons x.2 .nil))
  else if hk ts=2\/hk ts=3\/hk ts=24 then some (ts.tail,.node 2 ⟨#[]⟩ ⟨#[]⟩ (fy (ts.headD ⟨#[]⟩).data.toList).1 .nil .nil)
  else none
 | f+1,1,ts=>
  if hk ts=22 then (bP f 1 ts.tail).bind fun x=>some (x.1,iQ 14 (.cons x.2 .nil))
  else if hk ts=25 then (dq 4 ts.tail).bind fun a=>(bP f 2 a.2).bind fun x=>(dq 5 x.1).bind fun z=>some (z.2,.node 15 ⟨#[]⟩ ⟨#[]⟩ al.zero .nil x.2)
  else if hk ts=4/\oS 0 (ts.map dD)=true then
   (bP f 1 ts.tail).bind fun x=>if hk x.1=20\/hk x.1=21 then (bP f 1 x.1.tail).bind fun y=>(dq 5 y.1).bind fun z=>some (z.2,iQ (md.getD (hk x.1) 0) (.cons x.2 (.cons y.2 .nil))) else none
  else (bP f 0 ts).bind fun x=>
   if hk x.1=23 then (dq 24 x.1.tail).bind fun z=>some (z.2,iQ 19 (.cons x.2 .nil))
   else if hk x.1=8\/hk x.1=9\/hk x.1=10 then (bP f 0 x.1.tail).bind fun y=>some (y.1,iQ (md.getD (hk x.1) 0) (.cons x.2 (.cons y.2 .nil))) else none
 | f+1,2,ts=>(dq 14 ts).bind fun a=>(bP f 3 a.2).bind fun x=>(dq 15 x.1).bind fun b=>(eM (b.2.length+1) b.2).bind fun s=>(if hk s.1=16 then bP f 1 s.1.tail else some (s.1,.nil)).bind fun y=>(if hk y.1=17 then (dq 18 y.1.tail).bind fun c=>gV (fun _=>hp) (c.2.length+1) c.2 else some (y.1,.nil)).bind fun g=>(if hk g.1=19 then bP f 1 g.1.tail else some (g.1,.nil)).bind fun z=>some (z.1,.query x.2 s.2 y.2 g.2 z.2)
 | f+1,3,ts=>(bP f 0 ts).bind fun x=>if hk x.1=6 then (bP f 3 x.1.tail).bind fun y=>some (y.1,.cons x.2 y.2) else some (x.1,.cons x.2 .nil)
 | _+1,_+4,_=>none
def ip(x:e4×aL):List Nat×Nat:=(x.1.map dD,dep x.2)
def sd(ts:e4):(ts.map dD).headD 0=hk ts:=rfl
def se(ts:e4):(ts.map dD).tail=ts.tail.map dD:=by cases ts<;>rfl
def oT(k:Nat)(ts:e4):fx k (ts.map dD)=(dq k ts).map fun x=>x.2.map dD:=by
 cases ts with
 | nil=>rfl
 | cons h C=>simp only[List.map_cons,fx,dq];split<;>rfl
def Qa(ts:e4):mb (ts.map dD)=(hp ts).map fun x=>x.1.map dD:=by
 rw[mb,hp,oT];cases dq 1 ts with
 | none=>rfl
 | some a=>
  simp only[eQ,b2,oT];cases dq 7 a.2 with
  | none=>rfl
  | some aq=>
   simp only[eQ,b2,oT];cases dq 1 aq.2 with
   | none=>rfl
   | some b=>rfl
def J3(h:hp ts=some x):dep x.2=1:=by unfold hp at h;obtain⟨a,_,h⟩:=aV h;obtain⟨b,_,h⟩:=aV h;obtain⟨c,_,h⟩:=aV h;obtain rfl:=bx h;rfl
def Qb(b:List Nat)(g:List Nat->Option (List Nat)):(match b with | 6::C=>g C | _=>some b)=if b.headD 0=6 then g b.tail else some b:=by
 match b with
 | []=>rfl
 | a::C=>
  by_cases e:a=6
  ·subst e;rfl
  ·rw[if_neg (by exact e)];split
   ·rename_i h;exact absurd (List.cons.inj h).1 e
   ·rfl
def Zs(f:Nat):∀ts:e4,yX f (ts.map dD)=(eM f ts).map fun x=>x.1.map dD:=by
 induction f with
 | zero=>intro ts;rfl
 | succ f aH=>
  intro ts;rw[yX,eM,hP,oT];cases dq 1 ts with
  | none=>rfl
  | some a=>
   simp only[eQ,b2,oT];cases dq 1 a.2 with
   | none=>rfl
   | some b=>
    simp only[eQ,b2];refine(Qb _ _).trans ?_;rw[sd];by_cases e:hk b.2=6
    ·rw[if_pos e,if_pos e,se,aH];cases eM f b.2.tail<;>rfl
    ·rw[if_neg e,if_neg e];rfl
def Zt(f:Nat):∀ts:e4,xr f (ts.map dD)=(gV (fun _=>hp) f ts).map fun x=>x.1.map dD:=by
 induction f with
 | zero=>intro ts;rfl
 | succ f aH=>
  intro ts;rw[xr,gV,Qa];cases hp ts with
  | none=>rfl
  | some x=>
   simp only[eQ,b2];refine(Qb _ _).trans ?_;rw[sd];by_cases e:hk x.1=6
   ·rw[if_pos e,if_pos e,se,aH];cases gV (fun _=>hp) f x.1.tail<;>rfl
   ·rw[if_neg e,if_neg e];rfl
def Zu(f:Nat):∀(ts:e4) (x:e4×aL),gV (fun _=>hp) f ts=some x->dep x.2=1:=by
 induction f with
 | zero=>intro ts x h;cases h
 | succ f aH=>
  intro ts x h;rw[gV] at h;obtain⟨a,ak,h⟩:=aV h;have h1:=J3 ak;split at h
  ·obtain⟨y,hy,h⟩:=aV h;have H:=aH _ _ hy;obtain rfl:=bx h;show max (dep a.2) (dep y.2)=1;omega
  ·obtain rfl:=bx h;show max (dep a.2) 0=1;omega
def sf(k:Nat)(p:aL):dep (iQ k p)=1+dep p:=by rw[iQ,dep]
def J4(a b:aL):dep (.cons a (.cons b .nil))=max (dep a) (dep b):=by simp[dep]
def Gi(a:aL):dep (.cons a .nil)=dep a:=by simp[dep]
def Qc(h:bP f 2 ts=some x):∃e s w g z,x.2=.query e s w g z:=by
 match f,h with
 | f+1,h=>rw[bP] at h;obtain⟨a,_,h⟩:=aV h;obtain⟨b,_,h⟩:=aV h;obtain⟨c,_,h⟩:=aV h;obtain⟨aq,_,h⟩:=aV h;obtain⟨e,_,h⟩:=aV h;obtain⟨g,_,h⟩:=aV h;obtain⟨z,_,h⟩:=aV h;obtain rfl:=bx h;exact⟨_,_,_,_,_,rfl⟩
def Zv(h:∃e s w g z,U=.query e s w g z):dep (.node 15 ⟨#[]⟩ ⟨#[]⟩ al.zero .nil U)=1+dep U:=by obtain⟨e,s,w,g,z,rfl⟩:=h;rfl
def Zw:∀f,(∀ts x,bP f 0 ts=some x->1<=dep x.2)/\(∀ts x,bP f 3 ts=some x->1<=dep x.2):=by
 intro f;induction f with
 | zero=>exact⟨(fun ts x h=>by cases h),(fun ts x h=>by cases h)⟩
 | succ f aH=>
  refine⟨fun ts x h=>?_,fun ts x h=>?_⟩
  ·rw[bP] at h;split at h
   ·rw[J3 h];exact ap
   split at h
   ·obtain rfl:=bx h;rw[sf];omega
   split at h
   ·obtain⟨a,_,h⟩:=aV h;split at h
    ·obtain⟨b,_,h⟩:=aV h;obtain⟨c,_,h⟩:=aV h;obtain rfl:=bx h;rw[sf];omega
    ·cases h
   split at h
   ·obtain⟨a,_,h⟩:=aV h;split at h
    ·obtain⟨c,_,h⟩:=aV h;obtain rfl:=bx h;rw[sf];omega
    ·obtain⟨b,_,h⟩:=aV h;obtain⟨c,_,h⟩:=aV h;obtain rfl:=bx h;rw[sf];omega
   split at h
   ·obtain rfl:=bx h;show 1<=1+dep .nil;omega
   ·cases h
  ·rw[bP] at h;obtain⟨a,ak,h⟩:=aV h;have h1:=aH.1 _ _ ak;split at h
   ·obtain⟨b,A,h⟩:=aV h;have H:=aH.2 _ _ A;obtain rfl:=bx h;show 1<=max (dep a.2) (dep b.2);omega
   ·obtain rfl:=bx h;show 1<=max (dep a.2) 0;omega
def J5:∀(f tag:Nat) (ts:e4),eF f tag (ts.map dD)=(bP f tag ts).map ip:=by
 intro f;induction f with
 | zero=>intro tag ts;rfl
 | succ f aH=>
  intro tag ts;match tag with
  | 0=>
   rw[eF,bP];simp only[sd,se,aH,oT];split
   ·rw[Qa];cases ai:hp ts with
    | none=>rfl
    | some x=>simp[ip,J3 ai]
   split
   ·simp[ip,sf,dep]
   split
   ·cases bP f 0 ts.tail with
    | none=>rfl
    | some x=>
     simp only[eQ,b2,ip,sd,se,aH];split
     ·cases bP f 0 x.1.tail with
      | none=>rfl
      | some y=>
       simp only[eQ,b2,ip,oT];cases dq 5 y.1 with
       | none=>rfl
       | some z=>simp[ip,sf,J4]
     ·rfl
   split
   ·cases dq 4 ts.tail with
    | none=>rfl
    | some a=>
     simp only[eQ,b2,sd,se,aH,oT];split
     ·cases dq 5 a.2.tail with
      | none=>rfl
      | some z=>simp[ip,sf,dep]
     ·cases bP f 0 a.2 with
      | none=>rfl
      | some x=>
       simp only[eQ,b2,ip,oT];cases dq 5 x.1 with
       | none=>rfl
       | some z=>simp[ip,sf,Gi]
   split
   ·simp[ip,dep]
   ·rfl
  | 1=>
   rw[eF,bP];simp only[sd,se,aH,oT];split
   ·cases bP f 1 ts.tail with
    | none=>rfl
    | some x=>simp[ip,sf,Gi]
   split
   ·cases dq 4 ts.tail with
    | none=>rfl
    | some a=>
     simp only[eQ,b2,aH];cases ae:bP f 2 a.2 with
     | none=>rfl
     | some x=>
      simp only[eQ,b2,ip,oT];cases dq 5 x.1 with
      | none=>rfl
      | some z=>simp[ip,Zv (Qc ae)]
   split
   ·cases bP f 1 ts.tail with
    | none=>rfl
    | some x=>
     simp only[eQ,b2,ip,sd,se,aH];split
     ·cases bP f 1 x.1.tail with
      | none=>rfl
      | some y=>
       simp only[eQ,b2,ip,oT];cases dq 5 y.1 with
       | none=>rfl
       | some z=>simp[ip,sf,J4]
     ·rfl
   ·cases bP f 0 ts with
    | none=>rfl
    | some x=>
     simp only[eQ,b2,ip,sd,se,aH,oT];split
     ·cases dq 24 x.1.tail with
      | none=>rfl
      | some z=>simp[ip,sf,Gi]
     split
     ·cases bP f 0 x.1.tail with
      | none=>rfl
      | some y=>simp[ip,sf,J4]
     ·rfl
  | 2=>
   rw[eF,bP,oT];cases dq 14 ts with
   | none=>rfl
   | some a=>
    simp only[eQ,b2,aH];cases aa:bP f 3 a.2 with
    | none=>rfl
    | some x=>
     have jZ:=(Zw f).2 _ _ aa;simp only[eQ,b2,ip,oT];cases dq 15 x.1 with
     | none=>rfl
     | some b=>
      simp only[eQ,b2,cZ,Zs];cases eM (b.2.length+1) b.2 with
      | none=>rfl
      | some s=>
       simp only[eQ,b2,sd,se,aH];have hy:(if hk s.1=16 then (bP f 1 s.1.tail).map ip else some (s.1.map dD,0))=(if hk s.1=16 then bP f 1 s.1.tail else some (s.1,.nil)).map ip:=by split<;>rfl
       rw[hy];cases (if hk s.1=16 then bP f 1 s.1.tail else some (s.1,.nil)) with
       | none=>rfl
       | some y=>
        simp only[eQ,b2,ip,sd,se,oT];have R:(if hk y.1=17 then ((dq 18 y.1.tail).map fun x=>x.2.map dD).bind fun dt=>xr (dt.length+1) dt else some (y.1.map dD))=(if hk y.1=17 then (dq 18 y.1.tail).bind fun c=>gV (fun _=>hp) (c.2.length+1) c.2 else some (y.1,.nil)).map fun x=>x.1.map dD:=by
         split
         ·cases dq 18 y.1.tail with
          | none=>rfl
          | some c=>simp only[eQ,b2,cZ,Zt]
         ·rfl
        rw[R];cases en:(if hk y.1=17 then (dq 18 y.1.tail).bind fun c=>gV (fun _=>hp) (c.2.length+1) c.2 else some (y.1,.nil)) with
        | none=>rfl
        | some g=>
         have dv:dep g.2<=1:=by
          split at en
          ·obtain⟨c,_,h⟩:=aV en;rw[Zu _ _ _ h];exact ap
          ·obtain rfl:=bx en;exact bu
         simp only[eQ,b2,sd,se,aH];have aY:(if hk g.1=19 then (bP f 1 g.1.tail).map ip else some (g.1.map dD,0))=(if hk g.1=19 then bP f 1 g.1.tail else some (g.1,.nil)).map ip:=by split<;>rfl
         rw[aY];cases (if hk g.1=19 then bP f 1 g.1.tail else some (g.1,.nil)) with
         | none=>rfl
         | some z=>simp only[eQ,b2,ip,dep];congr 2;omega
  | 3=>
   rw[eF,bP,aH];cases bP f 0 ts with
   | none=>rfl
   | some x=>
    simp only[eQ,b2,ip,sd,se,aH];split
    ·cases bP f 3 x.1.tail with
     | none=>rfl
     | some y=>rfl
    ·simp[ip,Gi]
  | n+4=>rw[eF,bP];rfl
def Zx:∀(f:Nat) (ts:e4),bP f 3 ts=gV (fun n=>bP n 0) f ts:=by
 intro f;induction f with
 | zero=>intro ts;rfl
 | succ f aH=>
  intro ts;rw[bP,gV];cases bP f 0 ts with
  | none=>rfl
  | some x=>simp only[b2,aH]
def oU(c:UInt8):Bool:=c==32
def kx(p:List UInt8):Nat:=if jX p then 14+nm.idxOf p else if 6<p.length then 0 else 1
def Zy{α:Type}(p:α->Bool)(l:List α):l.take (l.takeWhile p).length=l.takeWhile p:=by
 induction l with
 | nil=>rfl
 | cons a C aH=>
  by_cases h:p a=true
  ·rw[List.takeWhile_cons_of_pos h,di,List.take_succ_cons,aH]
  ·rw[List.takeWhile_cons_of_neg h];rfl
def Qd(p:UInt8->Bool)(s:e6)(k:Nat):sub s k (cR p s k)=(s.data.toList.drop k).takeWhile p:=by rw[sub,ByteArray.data_extract,Array.toList_extract,List.extract,cR,Nat.add_sub_cancel_left,Zy]
def all_takeWhile(p:UInt8->Bool)(l:List UInt8):(l.takeWhile p).all p=true:=by
 induction l with
 | nil=>rfl
 | cons a C aH=>
  by_cases h:p a=true
  ·rw[List.takeWhile_cons_of_pos h,List.all_cons,h,aH];rfl
  ·rw[List.takeWhile_cons_of_neg h];rfl
def Zz(h:p.all isLet=true)(aw:p≠[]):kx p=if jX p||decide (p.length<=6) then dn p else 0:=by
 unfold kx;by_cases hk:jX p=true
 ·rw[if_pos hk,if_pos (by rw[hk];rfl),dn,if_pos hk]
 ·have gi:jX p=false:=by cases e:jX p<;>simp_all
  rw[if_neg hk,gi,Bool.false_or];by_cases X:p.length<=6
  ·rw[if_neg r,if_pos (by simpa using X)];refine((Zb p).2 ?_).symm;unfold iP yU;rw[h,gi];cases p with
   | nil=>exact absurd rfl aw
   | cons a C=>simpa using X
  ·rw[if_pos r,if_neg (by simpa using X)]
def ZA(h:gw.contains c=true):dn [c]=4+gw.idxOf c:=by
 have cC:c∈gw:=by simpa using h
 simp only[gw,List.mem_cons,ax4,or_false] at cC;rcases cC with h | h | h | h | h | h | h | h | h | h<;>subst h<;>decide
def ZB(c:UInt8)(C:List UInt8)(aj:p=c::C)(ai:cI c=true\/c=45):(fy p).2=sa p:=by
 subst aj;unfold fy sa;rw[if_neg,if_neg]
 ·split
  ·rename_i h;exact h.symm
  ·rename_i h;cases e:(ps (c::C)).2<;>simp_all
 ·intro h;have cC:c=39:=by simpa using h
  subst cC;revert ai;decide
 ·intro h;have cC:c=110:=(List.cons.inj h).1;subst cC;revert ai;decide
def Qe:¬((39:UInt8)::C=[110,117,108,108]):=fun h=>by have:(39:UInt8)=110:=(List.cons.inj h).1;revert this;decide
def ZC:(fy (39::(inner++[39]))).2=jf inner:=by
 unfold fy;rw[if_neg Qe,if_pos List.head?_cons];simp only[List.tail_cons,List.dropLast_concat,List.getLast?_append,List.getLast?_singleton,Option.some_or,true_and];split
 ·rename_i h;exact h.symm
 ·rename_i h;cases e:jf inner<;>simp_all
def ZD(h:inner.all gG=true):(fy (39::inner)).2=false:=by unfold fy;rw[if_neg Qe,if_pos List.head?_cons];rw[if_neg];rintro⟨e,_⟩;rw[List.tail_cons] at e;have hm:(39:UInt8)∈inner:=List.mem_of_getLast? e;have:=List.all_eq_true.1 h _ hm;revert this;decide
def vN(k:Nat):Bool:=k==0||k==4||k==6||k==8||k==9||k==10||k==11||k==12||k==13||decide (14<=k)
def ZE(t:List UInt8):jX t=decide (14<=dn t):=by
 rw[Bool.eq_iff_iff,decide_eq_true_eq];constructor
 ·intro h;rw[dn,if_pos h];omega
 ·intro h;unfold dn at h;by_cases a:jX t=true
  ·exact a
  ·rw[if_neg a] at h;by_cases c:t.length=1/\gw.contains (t.headD 0)=true
   ·rw[if_pos c] at h;obtain⟨i,hi,_,aa⟩:=PY c.1 c.2;omega
   ·rw[if_neg c] at h;repeat' split at h
    all_goals omega
def ZF(t:List UInt8)(h:t=[]\/dn t≠0):yV t=vN (dn t):=by
 have aw:t.isEmpty=(dn t==0):=by
  rcases h with rfl | h
  ·decide
  ·cases t with
   | nil=>exact absurd K h
   | cons a C=>simp[h]
 have X:∀k,4<=k->k<33->(t==qm k)=(dn t==k):=by intro k aK ZG;rw[Bool.eq_iff_iff,beq_iff_eq,beq_iff_eq,PZ t k aK ZG]
 have hq:=X 4 K K;have s8:=X 6 K K;have sg:=X 8 K K;have kX:=X 9 K K;have y0:=X 10 K K;have y1:=X 11 K K;have y2:=X 12 K K;have y3:=X 13 K K;have s9:qm 4=[40]:=K;have C9:qm 6=[44]:=K;have ZH:qm 8=[61]:=K;have ZI:qm 9=[60]:=K;have l10:qm 10=[62]:=K;have ZJ:qm 11=[43]:=K;have ZK:qm 12=[45]:=K;have ZL:qm 13=[42]:=K;rw[s9] at hq;rw[C9] at s8;rw[ZH] at sg;rw[ZI] at kX;rw[l10] at y0;rw[ZJ] at y1;rw[ZK] at y2;rw[ZL] at y3;unfold yV vN;rw[ZE,aw];simp only[List.contains_cons,List.contains_nil,Bool.or_false,hq,s8,sg,kX,y0,y1,y2,y3];generalize (dn t==0)=hr;generalize (dn t==4)=jg;generalize (dn t==6)=Gj;generalize (dn t==8)=Qf;generalize (dn t==9)=Qg;generalize (dn t==10)=Qh
 generalize (dn t==11)=J6;generalize (dn t==12)=J7;generalize (dn t==13)=J8;generalize decide (14<=dn t)=ZM;revert hr jg Gj Qf Qg Qh J6 J7 J8 ZM;decide
def Qn(s:e6)(a e:Nat)(he:e<=s.size):(sub s a e).length=e-a:=by rw[sub,ax7];show(s.extract a e).size=_;rw[ByteArray.size_extract];omega
def Gk(s:e6)(k e:Nat)(h:k<e)(he:e<=s.size):sub s k e=s[k]::sub s (k+1) e:=by simp only[sub,ByteArray.data_extract,Array.toList_extract,List.extract];rw[A2 s k r,show e-k=(e-(k+1))+1 by omega,List.take_succ_cons]
def ZS(s:e6)(k e:Nat)(h:k<=e)(he:e<s.size):sub s k (e+1)=sub s k e++[s[e]]:=by
 simp only[sub,ByteArray.data_extract,Array.toList_extract,List.extract];have X:e-k<(s.data.toList.drop k).length:=by rw[List.length_drop,s4];omega
 rw[show e+1-k=(e-k)+1 by omega,jD X];congr 2;rw[List.getElem_drop];have:k+(e-k)=e:=r;simp only[this];rfl
def Qo{p:UInt8->Bool}(h:cR p s j<s.size)(aS:j<=s.size):p s[cR p s j]=false:=by
 have:∀n j,s.size-j=n->j<=s.size->(h:cR p s j<s.size)->p s[cR p s j]=false:=by
  intro n;induction n with
  | zero=>intro j ar aS h;have:=pv p s j;omega
  | succ n aH=>
   intro j ar aS h;have aD:j<s.size:=r;cases aj:p s[j]
   ·have e:=C7 p s j aD aj;simp only[e];exact aj
   ·have e:=yW p s j aD aj;simp only[e];exact aH (j+1) r aD (by rw[<-e];exact h)
 exact this _ j rfl aS h
def jh(s:e6)(k:Nat):Nat:=if cR gG s (k+1)<s.size then cR gG s (k+1)+1 else s.size
def ZT(h:isLet c=true):(c==32)=false/\cI c=false/\(c==45)=false/\(c==39)=false:=by
 simp only[isLet,Bool.and_eq_true,decide_eq_true_eq] at h;refine⟨?_,?_,?_,?_⟩
 ·rw[cV];intro e;subst e;revert h;decide
 ·simp only[cI];rw[ax2 (p:=c.toNat<=57) r,Bool.and_false]
 ·rw[cV];intro e;subst e;revert h;decide
 ·rw[cV];intro e;subst e;revert h;decide
def Qp(h:cI c=true):(c==32)=false/\isLet c=false/\(c==45)=false/\(c==39)=false:=by
 simp only[cI,Bool.and_eq_true,decide_eq_true_eq] at h;refine⟨?_,?_,?_,?_⟩
 ·rw[cV];intro e;subst e;revert h;decide
 ·simp only[isLet];rw[ax2 (p:=97<=c.toNat) r,Bool.false_and]
 ·rw[cV];intro e;subst e;revert h;decide
 ·rw[cV];intro e;subst e;revert h;decide
def ZU(hk:k<s.size)(X:isLet s[k]=true):kW s k last=(if kx (sub s k (cR isLet s k))=0 then none else some (some (sub s k (cR isLet s k)),cR isLet s k))/\(kx (sub s k (cR isLet s k))≠0->dn (sub s k (cR isLet s k))=kx (sub s k (cR isLet s k))):=by
 have e:=yW isLet s k hk X;have qn:=pv isLet s (k+1);have hle:=s5 isLet s (k+1) hk;have aw:sub s k (cR isLet s k)≠[]:=by rw[Gk s k _ (by rw[e];omega) (by rw[e];exact hle)];simp
 have ak:(sub s k (cR isLet s k)).all isLet=true:=by rw[Qd];exact all_takeWhile _ _
 have dR:=Zz ak aw;have b7:(sub s k (cR isLet s k)).length=cR isLet s k-k:=Qn _ _ _ (by rw[e];exact hle);constructor
 ·unfold kW;rw[pu s k hk,if_neg (by rw[(ZT X).1];simp),if_pos X,<-e,dR,<-b7];cases ai:(jX (sub s k (cR isLet s k))||decide ((sub s k (cR isLet s k)).length<=6))
  ·simp
  ·have ar:dn (sub s k (cR isLet s k))≠0:=by
    rw[ai] at dR;simp only[if_true] at dR;rw[<-dR];unfold kx;split
    ·omega
    ·split
     ·rename_i h1 H;simp[h1] at ai;omega
     ·decide
   simp[ar]
 ·intro cy;rw[dR] at cy ⊢;split
  ·rfl
  ·rename_i h;rw[if_neg h] at cy;exact absurd rfl cy
def Qq(hk:k<s.size)(bb:cI s[k]=true\/pt s k last=true):kW s k last=(if (fy (sub s k (cR cI s (k+1)))).2=true then some (some (sub s k (cR cI s (k+1))),cR cI s (k+1)) else none)/\((fy (sub s k (cR cI s (k+1)))).2=true->dn (sub s k (cR cI s (k+1)))=2):=by
 have qn:=pv cI s (k+1);have hle:=s5 cI s (k+1) hk;have Db:=Gk s k (cR cI s (k+1)) r hle;have ai:cI s[k]=true\/s[k]=45:=by
  rcases bb with h | h
  ·exact Or.inl h
  ·right;unfold pt at h;rw[pu s k hk] at h;simp only[Bool.and_eq_true,beq_iff_eq] at h;exact h.1.1.1
 have hv:=ZB _ _ Db ai;have A:(s[k]==32)=false/\isLet s[k]=false:=by
  rcases ai with h | h
  ·exact⟨(Qp h).1,(Qp h).2.1⟩
  ·rw[h];decide
 constructor
 ·unfold kW;rw[pu s k hk,if_neg (by rw[A.1];simp),if_neg (by rw[A.2];simp),if_pos (by
   rcases bb with h | h
   ·rw[h];rfl
   ·rw[h,Bool.or_true]),hv]
 ·intro h;rw[hv] at h;exact(Ze _).2 h
def ZV(hk:k<s.size)(ae:s[k]=39):kW s k last=(if (fy (sub s k (jh s k))).2=true then some (some (sub s k (jh s k)),jh s k) else none)/\dn (sub s k (jh s k))=3:=by
 have qn:=pv gG s (k+1);have hle:=s5 gG s (k+1) hk;have aD:k<jh s k:=by unfold jh;split<;>omega
 have A7:jh s k<=s.size:=by unfold jh;split<;>omega
 have Db:=Gk s k (jh s k) aD A7;have hm:pt s k last=false:=by unfold pt;rw[pu s k hk,ae];rfl
 have cq:(sub s (k+1) (cR gG s (k+1))).all gG=true:=by rw[Qd];exact all_takeWhile _ _
 constructor
 ·unfold kW;rw[pu s k hk,if_neg (by rw[ae];decide),if_neg (by rw[ae];decide),if_neg (by rw[hm,ae];decide),if_pos (by rw[ae];decide)];by_cases hE:cR gG s (k+1)<s.size
  ·have xv:jh s k=cR gG s (k+1)+1:=by unfold jh;rw[if_pos hE]
   have te:s[cR gG s (k+1)]=39:=by have:=Qo hE hk;simpa [gG] using this
   have aj:sub s k (jh s k)=39::(sub s (k+1) (cR gG s (k+1))++[39]):=by rw[Db,ae,xv,ZS s (k+1) _ qn hE,te]
   rw[aj,ZC,ax3 hE,Bool.true_and,<-xv,aj]
  ·have xv:jh s k=s.size:=by unfold jh;rw[if_neg hE]
   have es:cR gG s (k+1)=s.size:=r;have aj:sub s k (jh s k)=39::sub s (k+1) (cR gG s (k+1)):=by rw[Db,ae,xv,es]
   rw[aj,ZD cq,ax2 hE];rfl
 ·rw[Zc,Db,ae];rfl
def ZW(hk:k<s.size)(A:(s[k]==32)=false)(X:isLet s[k]=false)(bb:cI s[k]=false)(hm:pt s k last=false)(ae:(s[k]==39)=false):kW s k last=(if gw.contains s[k]=true then some (some (sub s k (k+1)),k+1) else none)/\(gw.contains s[k]=true->dn (sub s k (k+1))=4+gw.idxOf s[k]):=by
 have Kb:sub s k (k+1)=[s[k]]:=by
  rw[Gk s k (k+1) r hk];have:(sub s (k+1) (k+1)).length=0:=by rw[Qn _ _ _ hk];omega
  rw[ma this]
 constructor
 ·unfold kW;rw[pu s k hk,if_neg (by rw[A];simp),if_neg (by rw[X];simp),if_neg (by rw[bb,hm];simp),if_neg (by rw[ae];simp)]
 ·intro h;rw[Kb];exact ZA h
def a7(l:List UInt8):e6:=⟨l.toArray⟩
def Dc(l:List UInt8):(a7 l).data.toList=l:=rfl
def Qr(b:e6):a7 b.data.toList=b:=rfl
def ZX{a b:e6}(h:a.data.toList=b.data.toList):a=b:=by rw[<-Qr a,h,Qr]
structure bG where
 name:e6
 bl:List (e6×Nat)
 ad:je
 last:Nat
variable{B:List bG}
structure hG where
 bY:List bG
 dS:Int
def splitB(c:UInt8):List UInt8->List (List UInt8)
 | []=>[[]]
 | a::C=>if a=c then []::splitB c C else match splitB c C with
  | []=>[[a]]
  | h::t=>(a::h)::t
def A8(p:List UInt8):Option (e6×Nat):=match splitB 58 p with
 | [n,k]=>if iP n&&k==[105] then some (a7 n,1) else if iP n&&k==[116] then some (a7 n,2) else none
 | _=>none
def iq{α β:Type}(g:α->Option β):List α->Option (List β)
 | []=>some []
 | a::C=>(g a).bind fun x=>(iq g C).bind fun y=>some (x::y)
def mE(s:List UInt8):Option (List (e6×Nat)):=if 4<(splitB 44 s).length then none else iq A8 (splitB 44 s)
def twins:List (e6×Nat)->Bool
 | []=>false
 | a::C=>C.any (fun b=>b.1==a.1)||twins C
def qo:e6:=a7 [108,111,103]
def qp:e6:=a7 [116,111,117,99,104]
def lL(g:hG)(name bl:e6):Nat×hG:=if iP name.data.toList then
  match mE bl.data.toList with
  | none=>(1,g)
  | some l=>if g.bY.any (fun t=>t.name==name)||name==qo||name==qp||twins l then (3,g) else if 6<=g.bY.length then (7,g) else (0,{g with bY:=g.bY++[⟨name,l,[],0⟩]})
 else (1,g)
def valOf(s:e6):Option al:=if (fy s.data.toList).2 then some (fy s.data.toList).1 else none
def q7:List al->List (e6×Nat)->Bool
 | [],_=>true
 | _,[]=>true
 | v::vs,c::cs=>(v.kind==0||v.kind==c.2)&&q7 vs cs
def od(t:bG)(ba:e4):Nat×Nat×bG:=if ba.length=t.bl.length then
  match iq valOf ba with
  | none=>(0,1,t)
  | some l=>if q7 l t.bl then (if 20<=t.ad.length then (0,7,t) else (t.last+1,0,{t with ad:=t.ad++[(t.last+1,l)],last:=t.last+1})) else (0,5,t)
 else (0,1,t)
def ad1(t:bG)(n:Int):Nat×bG:=match t.ad.findIdx? (fun C=>(C.1:Int)==n) with
 | none=>(8,t)
 | some i=>(0,{t with ad:=t.ad.eraseIdx i})
def fD(l:List bG)(name:e6):Option Nat:=l.findIdx? (fun t=>t.name==name)
def mF(g:hG)(name:e6)(ba:e4):Nat×Nat×hG:=match fD g.bY name with
 | none=>(0,8,g)
 | some i=>match g.bY[i]? with
  | none=>(0,8,g)
  | some t=>((od t ba).1,(od t ba).2.1,{g with bY:=g.bY.set i (od t ba).2.2})
def pz(g:hG)(name:e6)(n:Int):Nat×hG:=match fD g.bY name with
 | none=>(8,g)
 | some i=>match g.bY[i]? with
  | none=>(8,g)
  | some t=>((ad1 t n).1,{g with bY:=g.bY.set i (ad1 t n).2})
def isAgg(k:Nat):Bool:=decide (26<=k)&&decide (k<=29)
def uS:List Nat->Bool
 | []=>true
 | k::C=>(!isAgg k||C.headD 0==4)&&uS C
def ZY:∀(a b:List Nat),uS a=true->uS b=true->uS (a++b)=true:=by
 intro a;induction a with
 | nil=>intro b _ h;exact h
 | cons k C aH=>
  intro b h1 H;rw[uS,Bool.and_eq_true] at h1;rw[List.cons_append,uS,Bool.and_eq_true];refine⟨?_,aH b h1.2 H⟩;cases C with
  | nil=>
   have h:=h1.1;cases hk:isAgg k
   ·rfl
   ·rw[hk] at h;exact absurd h K
  | cons x y=>exact h1.1
def Qs(h:isAgg k=false):uS [k]=true:=by rw[uS,h];rfl
def Qt(h:k<26\/29<k):isAgg k=false:=by
 unfold isAgg;rcases h with h | h
 ·rw[ax2 r,Bool.false_and]
 ·rw[ax2 (p:=k<=29) r,Bool.and_false]
def el(ks xt:List Nat):Prop:=∃sb,ks=sb++xt/\uS sb=true
def el.refl(ks:List Nat):el ks ks:=⟨[],rfl,rfl⟩
def el.trans{a c:List Nat}(h1:el a b)(H:el b c):el a c:=by obtain⟨s1,rfl,Y⟩:=h1;obtain⟨s2,rfl,am⟩:=H;exact⟨s1++s2,by simp,ZY _ _ Y am⟩
def el.one{C:List Nat}(h:k<26\/29<k):el (k::C) C:=⟨[k],rfl,Qs (Qt h)⟩
def el.fx{C:List Nat}(h:fx k ks=some C)(hk:k<26\/29<k):el ks C:=by rw[C8 h];exact el.one hk
def el.head(h:ks.headD 0=k)(iS:k≠0)(hk:k<26\/29<k):el ks ks.tail:=by have:=P3 h iS;rw[this];exact el.one hk
def el.agg{C:List Nat}(h:ks.headD 0=k)(iS:k≠0)(aK:bS.fx 4 ks.tail=some C):el ks C:=by
 refine⟨[k,4],?_,?_⟩
 ·rw[P3 h iS,C8 aK];rfl
 ·rw[uS,Qs (Qt r)];simp
def el.Qu{C:List Nat}(h:mb ks=some C):el ks C:=⟨[1,7,1],(Zg h).1,K⟩
def el.V:∀(f:Nat) (ks C:List Nat),yX f ks=some C->el ks C:=by
 intro f;induction f with
 | zero=>intro ks C h;cases h
 | succ f aH=>
  intro ks C h;rw[yX] at h;obtain⟨a,ak,h⟩:=aV h;obtain⟨b,A,h⟩:=aV h;refine(el.fx ak r).trans ((el.fx A r).trans ?_);split at h
  ·exact(el.one r).trans (aH _ _ h)
  ·obtain rfl:=bx h;exact el.refl _
def el.bl:∀(f:Nat) (ks C:List Nat),xr f ks=some C->el ks C:=by
 intro f;induction f with
 | zero=>intro ks C h;cases h
 | succ f aH=>
  intro ks C h;rw[xr] at h;obtain⟨a,ak,h⟩:=aV h;refine(el.Qu ak).trans ?_;split at h
  ·exact(el.one r).trans (aH _ _ h)
  ·obtain rfl:=bx h;exact el.refl _
def el.opt(iS:k≠0)(hk:k<26\/29<k){ji:Nat}{y:List Nat×Nat}(aH:∀ks x,eF f 1 ks=some x->el ks x.1)(h:(if ks.headD 0=k then eF f 1 ks.tail else some (ks,ji))=some y):el ks y.1:=by
 split at h
 ·rename_i e;exact(el.head e iS hk).trans (aH _ _ h)
 ·obtain rfl:=bx h;exact el.refl _
def Qv:∀(f tag:Nat) (ks:List Nat) (x:List Nat×Nat),eF f tag ks=some x->el ks x.1:=by
 intro f;induction f with
 | zero=>intro tag ks x h;cases h
 | succ f aH=>
  intro tag ks x h;match tag,h with
  | 0,h=>
   rw[eF] at h;split at h
   ·obtain⟨a,ak,h⟩:=aV h;obtain rfl:=bx h;exact el.Qu ak
   split at h
   ·rename_i e;obtain rfl:=bx h;exact el.head e r r
   split at h
   ·rename_i e;obtain⟨a,ak,h⟩:=aV h;split at h
    ·rename_i am;obtain⟨b,A,h⟩:=aV h;obtain⟨c,ai,h⟩:=aV h;obtain rfl:=bx h;exact(el.head e r r).trans ((aH _ _ _ ak).trans ((el.head (k:=a.1.headD 0) rfl r r).trans ((aH _ _ _ A).trans (el.fx ai r))))
    ·cases h
   split at h
   ·rename_i e;obtain⟨a,ak,h⟩:=aV h;refine(el.agg rfl r ak).trans ?_;split at h
    ·rename_i am;obtain⟨c,ai,h⟩:=aV h;obtain rfl:=bx h;exact(el.head am.2 r r).trans (el.fx ai r)
    ·obtain⟨b,A,h⟩:=aV h;obtain⟨c,ai,h⟩:=aV h;obtain rfl:=bx h;exact(aH _ _ _ A).trans (el.fx ai r)
   split at h
   ·rename_i e;obtain rfl:=bx h;exact el.head (k:=ks.headD 0) rfl r r
   ·cases h
  | 1,h=>
   rw[eF] at h;split at h
   ·rename_i e;obtain⟨a,ak,h⟩:=aV h;obtain rfl:=bx h;exact(el.head e r r).trans (aH 1 _ a ak)
   split at h
   ·rename_i e;obtain⟨a,ak,h⟩:=aV h;obtain⟨b,A,h⟩:=aV h;obtain⟨c,ai,h⟩:=aV h;obtain rfl:=bx h;exact(el.head e r r).trans ((el.fx ak r).trans ((aH _ _ _ A).trans (el.fx ai r)))
   split at h
   ·rename_i e;obtain⟨a,ak,h⟩:=aV h;split at h
    ·rename_i am;obtain⟨b,A,h⟩:=aV h;obtain⟨c,ai,h⟩:=aV h;obtain rfl:=bx h;exact(el.head e.1 r r).trans ((aH _ _ _ ak).trans ((el.head (k:=a.1.headD 0) rfl r r).trans ((aH _ _ _ A).trans (el.fx ai r))))
    ·cases h
   ·obtain⟨a,ak,h⟩:=aV h;refine(aH _ _ _ ak).trans ?_;split at h
    ·rename_i am;obtain⟨c,ai,h⟩:=aV h;obtain rfl:=bx h;exact(el.head am r r).trans (el.fx ai r)
    split at h
    ·rename_i am;obtain⟨b,A,h⟩:=aV h;obtain rfl:=bx h;exact(el.head (k:=a.1.headD 0) rfl r r).trans (aH 0 _ b A)
    ·cases h
  | 2,h=>
   rw[eF] at h;obtain⟨a,ak,h⟩:=aV h;obtain⟨b,A,h⟩:=aV h;obtain⟨c,ai,h⟩:=aV h;obtain⟨aq,bb,h⟩:=aV h;obtain⟨y,hy,h⟩:=aV h;obtain⟨g,R,h⟩:=aV h;obtain⟨z,aY,h⟩:=aV h;obtain rfl:=bx h;have dY:el y.1 g:=by
    split at R
    ·rename_i e;obtain⟨dt,aK,R⟩:=aV R;exact(el.head e r r).trans ((el.fx aK r).trans (el.bl _ _ _ R))
    ·obtain rfl:=bx R;exact el.refl _
   exact(el.fx ak r).trans ((aH _ _ _ A).trans ((el.fx ai r).trans ((el.V _ _ _ bb).trans ((el.opt (k:=16) K K (aH 1) hy).trans (dY.trans (el.opt (k:=19) (y:=z) K K (aH 1) aY))))))
  | 3,h=>
   rw[eF] at h;obtain⟨a,ak,h⟩:=aV h;refine(aH _ _ _ ak).trans ?_;split at h
   ·rename_i e;obtain⟨b,A,h⟩:=aV h;obtain rfl:=bx h;exact(el.head e r r).trans (aH 3 _ b A)
   ·obtain rfl:=bx h;exact el.refl _
  | n+4,h=>rw[eF] at h;cases h
def dH:aL->Nat
 | .cons _ t=>dH t+1
 | _=>0
inductive fQ (N:Nat):Nat->aL->Prop
 | node {k:Nat} {s n:e6} {v:al} {p:aL}:fQ N 1 p->dH p<=2->fQ N 0 (.node k s n v p .nil)
 | Sn {k:Nat} {s n:e6} {v:al} {e g w h:aL} {l:lh}:fQ N 2 (.query e l w g h)->fQ N 0 (.node k s n v .nil (.query e l w g h))
 | nil:fQ N 1 .nil
 | cons {h t:aL}:fQ N 0 h->fQ N 1 t->fQ N 1 (.cons h t)
 | query {c7 Y g w h:aL} {l:lh}:fQ N 1 (.cons c7 Y)->fQ N 1 g->fQ N 3 w->fQ N 3 h->dH (.cons c7 Y)<=N->dH g<=N->fQ N 2 (.query (.cons c7 Y) l w g h)
 | none:fQ N 3 .nil
 | some {t:aL}:fQ N 0 t->fQ N 3 t
def fQ.two{b:aL}(h1:fQ N 0 a)(H:fQ N 0 b):fQ N 0 (iQ k (.cons a (.cons b .nil))):=.node (.cons h1 (.cons H .nil)) ap
def fQ.one(h1:fQ N 0 a):fQ N 0 (iQ k (.cons a .nil)):=.node (.cons h1 .nil) (Nat.le_succ _)
def fQ.leaf:fQ N 0 (iQ k .nil):=.node .nil bu
def Li(h:hp l=some x):fQ N 0 x.2:=by unfold hp at h;obtain⟨a,_,h⟩:=aV h;obtain⟨b,_,h⟩:=aV h;obtain⟨c,_,h⟩:=aV h;obtain rfl:=bx h;exact .node .nil bu
def So:∀(f:Nat) (l:e4) (x:e4×aL),gV (fun _=>hp) f l=some x->fQ N 1 x.2/\dH x.2<=f:=by
 intro f;induction f with
 | zero=>intro l x h;cases h
 | succ f aH=>
  intro l x h;rw[gV] at h;obtain⟨a,ak,h⟩:=aV h;split at h
  ·obtain⟨y,hy,h⟩:=aV h;obtain rfl:=bx h;obtain⟨h1,H⟩:=aH _ _ hy;exact⟨.cons (Li ak) h1,by show dH y.2+1<=_;omega⟩
  ·obtain rfl:=bx h;exact⟨.cons (Li ak) .nil,by show 0+1<=_;omega⟩
def nD(h:bP f tag l=some x):x.1.length<=l.length:=by have h1:=J5 f tag l;rw[h] at h1;obtain⟨sb,e,_⟩:=Qv _ _ _ _ h1;have:=congrArg List.length e;simp only[ip,cZ,cu] at this;omega
def lp{x:e6×e4}(h:dq k l=some x):x.2.length<=l.length:=by
 match l,h with
 | t::C,h=>
  rw[dq] at h;split at h
  ·obtain rfl:=bx h;exact Nat.le_succ _
  ·cases h
def mm(l:e4):l.tail.length<=l.length:=by rw[List.length_tail];omega
def Lj:∀(f:Nat) (l:e4) (x:e4×lh),eM f l=some x->x.1.length<=l.length:=by
 intro f;induction f with
 | zero=>intro l x h;cases h
 | succ f aH=>
  intro l x h;rw[eM] at h;obtain⟨a,ak,h⟩:=aV h;have h1:a.1.length<=l.length:=by unfold hP at ak;obtain⟨b,A,ak⟩:=aV ak;obtain⟨c,ai,ak⟩:=aV ak;obtain rfl:=bx ak;exact bX (lp ai) (lp A)
  split at h
  ·obtain⟨y,hy,h⟩:=aV h;obtain rfl:=bx h;have lq:=aH _ _ hy;have b5:=mm a.1;show y.1.length<=_;omega
  ·obtain rfl:=bx h;exact h1
def Sp{y:e4×aL}(aH:∀l x,bP f 1 l=some x->l.length+1<=N->fQ N 0 x.2)(X:l.length+1<=N)(h:(if hk l=k then bP f 1 l.tail else some (l,.nil))=some y):fQ N 3 y.2/\y.1.length<=l.length:=by
 split at h
 ·have:=mm l;exact⟨.some (aH _ _ h r),bX (nD h) this⟩
 ·obtain rfl:=bx h;exact⟨.none,ap⟩
def adv(N:Nat):∀f,f<=N->(∀l x,bP f 0 l=some x->fQ N 0 x.2)/\(∀l x,bP f 1 l=some x->l.length+1<=N->fQ N 0 x.2)/\(∀l x,bP f 2 l=some x->l.length+1<=N->fQ N 2 x.2)/\(∀l x,bP f 3 l=some x->fQ N 1 x.2/\dH x.2<=f/\∃a b,x.2=.cons a b):=by
 intro f;induction f with
 | zero=>intro _;exact⟨(fun l x h=>by cases h),(fun l x h=>by cases h),(fun l x h=>by cases h),(fun l x h=>by cases h)⟩
 | succ f aH=>
  intro cS;obtain⟨i0,cn,i2,i3⟩:=aH r;refine⟨fun l x h=>?_,fun l x h X=>?_,fun l x h X=>?_,fun l x h=>?_⟩
  ·rw[bP] at h;split at h
   ·exact Li h
   split at h
   ·obtain rfl:=bx h;exact fQ.leaf
   split at h
   ·obtain⟨a,ak,h⟩:=aV h;split at h
    ·obtain⟨b,A,h⟩:=aV h;obtain⟨c,_,h⟩:=aV h;obtain rfl:=bx h;exact fQ.two (i0 _ _ ak) (i0 _ _ A)
    ·cases h
   split at h
   ·obtain⟨a,_,h⟩:=aV h;split at h
    ·obtain⟨c,_,h⟩:=aV h;obtain rfl:=bx h;exact fQ.leaf
    ·obtain⟨b,A,h⟩:=aV h;obtain⟨c,_,h⟩:=aV h;obtain rfl:=bx h;exact fQ.one (i0 _ _ A)
   split at h
   ·obtain rfl:=bx h;exact .node .nil bu
   ·cases h
  ·rw[bP] at h;have au:=mm l;split at h
   ·obtain⟨a,ak,h⟩:=aV h;obtain rfl:=bx h;exact fQ.one (cn _ _ ak r)
   split at h
   ·obtain⟨a,ak,h⟩:=aV h;obtain⟨b,A,h⟩:=aV h;obtain⟨c,_,h⟩:=aV h;have h1:=lp ak;have ae:=i2 _ _ A r;obtain⟨e,s,w,g,z,aY⟩:=Qc A;obtain rfl:=bx h;show fQ N 0 (.node 15 ⟨#[]⟩ ⟨#[]⟩ al.zero .nil b.2);rw[aY] at ae ⊢;exact .Sn ae
   split at h
   ·obtain⟨a,ak,h⟩:=aV h;have h1:=nD ak;split at h
    ·obtain⟨b,A,h⟩:=aV h;obtain⟨c,_,h⟩:=aV h;have H:=mm a.1;obtain rfl:=bx h;exact fQ.two (cn _ _ ak r) (cn _ _ A r)
    ·cases h
   ·obtain⟨a,ak,h⟩:=aV h;split at h
    ·obtain⟨c,_,h⟩:=aV h;obtain rfl:=bx h;exact fQ.one (i0 _ _ ak)
    split at h
    ·obtain⟨b,A,h⟩:=aV h;obtain rfl:=bx h;exact fQ.two (i0 _ _ ak) (i0 _ _ A)
    ·cases h
  ·rw[bP] at h;obtain⟨a,ak,h⟩:=aV h;obtain⟨b,A,h⟩:=aV h;obtain⟨c,ai,h⟩:=aV h;obtain⟨aq,bb,h⟩:=aV h;obtain⟨y,hy,h⟩:=aV h;obtain⟨g,R,h⟩:=aV h;obtain⟨z,aY,h⟩:=aV h;have h1:=lp ak;have H:=nD A;have ab:=lp ai;have aK:=Lj _ _ _ bb;obtain⟨J,l1,c7,Y,he⟩:=i3 _ _ A;obtain⟨Lk,G1⟩:=Sp cn r hy;have Bz:fQ N 1 g.2/\dH g.2<=N/\g.1.length<=y.1.length:=by
    split at R
    ·obtain⟨dt,rm,R⟩:=aV R;have cO:=lp rm;have cE:=mm y.1;obtain⟨q1,bN⟩:=So (N:=N) _ _ _ R;refine⟨q1,r,?_⟩;have key:∀(f:Nat) (l:e4) (x:e4×aL),gV (fun _=>hp) f l=some x->x.1.length<=l.length:=by
      intro f;induction f with
      | zero=>intro l x h;cases h
      | succ f Ll=>
       intro l x h;rw[gV] at h;obtain⟨a,ak,h⟩:=aV h;have h1:a.1.length<=l.length:=by unfold hp at ak;obtain⟨p,aj,ak⟩:=aV ak;obtain⟨U,ae,ak⟩:=aV ak;obtain⟨C,ag,ak⟩:=aV ak;obtain rfl:=bx ak;exact bX (lp ag) (bX (lp ae) (lp aj))
       split at h
       ·obtain⟨y,hy,h⟩:=aV h;obtain rfl:=bx h;have lq:=Ll _ _ hy;have b5:=mm a.1;show y.1.length<=_;omega
       ·obtain rfl:=bx h;exact h1
     have:=key _ _ _ R;omega
    ·obtain rfl:=bx R;exact⟨.nil,bu,ap⟩
   obtain⟨Lm,ef,sx⟩:=Bz;obtain⟨Ln,_⟩:=Sp cn r aY;obtain rfl:=bx h;show fQ N 2 (.query b.2 aq.2 y.2 g.2 z.2);rw[he] at J l1 ⊢;exact .query J Lm Lk Ln r ef
  ·rw[bP] at h;obtain⟨a,ak,h⟩:=aV h;split at h
   ·obtain⟨b,A,h⟩:=aV h;obtain⟨q1,bN,_⟩:=i3 _ _ A;obtain rfl:=bx h;exact⟨.cons (i0 _ _ ak) q1,by show dH b.2+1<=_;omega,_,_,rfl⟩
   ·obtain rfl:=bx h;exact⟨.cons (i0 _ _ ak) .nil,by show 0+1<=_;omega,_,_,rfl⟩
def adw:∀(f tag:Nat) (l:e4) (x:e4×aL),bP f tag l=some x->dep x.2<=f:=by
 have key:∀(f tag:Nat) (ks:List Nat) (x:List Nat×Nat),eF f tag ks=some x->x.2<=f:=by
  intro f;induction f with
  | zero=>intro tag ks x h;cases h
  | succ f aH=>
   intro tag ks x h;match tag,h with
   | 0,h=>
    rw[eF] at h;split at h
    ·obtain⟨a,_,h⟩:=aV h;obtain rfl:=bx h;show 1<=_;omega
    split at h
    ·obtain rfl:=bx h;show 1<=_;omega
    split at h
    ·obtain⟨a,ak,h⟩:=aV h;split at h
     ·obtain⟨b,A,h⟩:=aV h;obtain⟨c,_,h⟩:=aV h;have:=aH _ _ _ ak;have:=aH _ _ _ A;obtain rfl:=bx h;show 1+max a.2 b.2<=_;omega
     ·cases h
    split at h
    ·obtain⟨a,_,h⟩:=aV h;split at h
     ·obtain⟨c,_,h⟩:=aV h;obtain rfl:=bx h;show 1<=_;omega
     ·obtain⟨b,A,h⟩:=aV h;obtain⟨c,_,h⟩:=aV h;have:=aH _ _ _ A;obtain rfl:=bx h;show 1+b.2<=_;omega
    split at h
    ·obtain rfl:=bx h;show 1<=_;omega
    ·cases h
   | 1,h=>
    rw[eF] at h;split at h
    ·obtain⟨a,ak,h⟩:=aV h;have:=aH _ _ _ ak;obtain rfl:=bx h;show 1+a.2<=_;omega
    split at h
    ·obtain⟨a,_,h⟩:=aV h;obtain⟨b,A,h⟩:=aV h;obtain⟨c,_,h⟩:=aV h;have:=aH _ _ _ A;obtain rfl:=bx h;show 1+b.2<=_;omega
    split at h
    ·obtain⟨a,ak,h⟩:=aV h;split at h
     ·obtain⟨b,A,h⟩:=aV h;obtain⟨c,_,h⟩:=aV h;have:=aH _ _ _ ak;have:=aH _ _ _ A;obtain rfl:=bx h;show 1+max a.2 b.2<=_;omega
     ·cases h
    ·obtain⟨a,ak,h⟩:=aV h;have:=aH _ _ _ ak;split at h
     ·obtain⟨c,_,h⟩:=aV h;obtain rfl:=bx h;show 1+a.2<=_;omega
     split at h
     ·obtain⟨b,A,h⟩:=aV h;have:=aH _ _ _ A;obtain rfl:=bx h;show 1+max a.2 b.2<=_;omega
     ·cases h
   | 2,h=>
    rw[eF] at h;obtain⟨a,_,h⟩:=aV h;obtain⟨b,A,h⟩:=aV h;obtain⟨c,_,h⟩:=aV h;obtain⟨aq,_,h⟩:=aV h;obtain⟨y,hy,h⟩:=aV h;obtain⟨g,_,h⟩:=aV h;obtain⟨z,aY,h⟩:=aV h;have h1:=aH _ _ _ A;have H:y.2<=f:=by
     split at hy
     ·exact aH _ _ _ hy
     ·obtain rfl:=bx hy;exact bu
    have ab:z.2<=f:=by
     split at aY
     ·exact aH _ _ _ aY
     ·obtain rfl:=bx aY;exact bu
    obtain rfl:=bx h;show 1+max b.2 (max y.2 z.2)<=_;omega
   | 3,h=>
    rw[eF] at h;obtain⟨a,ak,h⟩:=aV h;have:=aH _ _ _ ak;split at h
    ·obtain⟨b,A,h⟩:=aV h;have:=aH _ _ _ A;obtain rfl:=bx h;show max a.2 b.2<=_;omega
    ·obtain rfl:=bx h;omega
   | n+4,h=>rw[eF] at h;cases h
 intro f tag l x h;have h1:=J5 f tag l;rw[h] at h1;exact key _ _ _ _ h1
def ap9(l C:Nat):Bool:=if l=0\/l=4\/l=7 then false else if 26<=l/\l<=29 then !(C==4) else !(C==5)&&!(C==6)&&!(C==7)
def arity(k:Nat):Nat:=if k=4\/k=5\/k=6\/k=12\/k=13\/k=16\/k=17\/k=18 then 2 else if k=8\/k=9\/k=10\/k=11\/k=14\/k=19 then 1 else 0
structure fv (v:al):Prop where
 kind:v.kind<=2
 low : -1000000000000<=v.num
 high:v.num<=1000000000000
 num:v.kind≠1->v.num=0
 du:v.kind≠2->v.du=[]
 Sq:jf v.du=true
def aJ:aL->Nat->Prop
 | .nil,tag=>tag=3\/tag=4\/tag=5\/tag=6
 | .cons h t,tag=>(tag=3/\aJ h 0/\aJ t 3)\/(tag=5/\aJ h 7/\aJ t 5)\/(tag=6/\aJ h 1/\aJ t 6)
 | .node k _ _ v p U,tag=>fv v/\dH p=arity k/\(((tag=0/\1<=k/\k<=11\/(tag=0\/tag=7)/\k=1\/(tag=1\/tag=4)/\16<=k/\k<=19)/\aJ p 3/\U=.nil)\/((tag=1\/tag=4)/\12<=k/\k<=14/\aJ p 6/\U=.nil)\/((tag=1\/tag=4)/\k=15/\p=.nil/\aJ U 2))
 | .query e l w g h,tag=>tag=2/\aJ e 3/\1<=dH e/\dH e<=5000/\1<=l.length/\aJ w 4/\aJ g 5/\dH g<=5000/\aJ h 4
def mN:fv al.zero:=⟨K,K,K,fun _=>rfl,fun _=>rfl,rfl⟩
def ady(s:List UInt8)(h:(ps s).2=true): -1000000000000<=(ps s).1/\(ps s).1<=1000000000000:=by
 unfold ps q4 at h ⊢;split at h<;>rename_i h1
 ·split at h<;>rename_i H
  ·rw[if_pos h1,if_pos H];have:=of_decide_eq_true h;constructor<;>(simp only[];omega)
  ·cases h
 ·split at h<;>rename_i H
  ·rw[if_neg h1,if_pos H];have:=of_decide_eq_true h;constructor<;>(simp only[];omega)
  ·cases h
def Sr(s:List UInt8):fv (fy s).1:=by
 unfold fy;split
 ·exact mN
 split
 ·split<;>rename_i h
  ·exact⟨ap,by simp,by simp,fun _=>rfl,fun h=>absurd rfl h,h.2⟩
  ·exact mN
 split<;>rename_i h
 ·obtain⟨h1,H⟩:=ady s h;exact⟨by simp,h1,H,fun h=>absurd rfl h,fun _=>rfl,rfl⟩
 ·exact mN
def aJ.two{b:aL}(au:t2=0/\tag=3\/t2=1/\tag=6)(h1:aJ a t2)(H:aJ b t2):aJ (.cons a (.cons b .nil)) tag:=by
 rcases au with⟨rfl,rfl⟩ | ⟨rfl,rfl⟩
 ·exact .inl ⟨rfl,h1,.inl ⟨rfl,H,.inl rfl⟩⟩
 ·exact .inr (.inr ⟨rfl,h1,.inr (.inr ⟨rfl,H,by simp[aJ]⟩)⟩)
def aJ.one(au:t2=0/\tag=3\/t2=1/\tag=6)(h1:aJ a t2):aJ (.cons a .nil) tag:=by
 rcases au with⟨rfl,rfl⟩ | ⟨rfl,rfl⟩
 ·exact .inl ⟨rfl,h1,.inl rfl⟩
 ·exact .inr (.inr ⟨rfl,h1,by simp[aJ]⟩)
def Lo(h:hp l=some x):aJ x.2 0/\aJ x.2 7:=by unfold hp at h;obtain⟨a,_,h⟩:=aV h;obtain⟨b,_,h⟩:=aV h;obtain⟨c,_,h⟩:=aV h;obtain rfl:=bx h;exact⟨⟨mN,rfl,.inl ⟨.inl ⟨rfl,K,K⟩,.inl rfl,rfl⟩⟩,⟨mN,rfl,.inl ⟨.inr (.inl ⟨.inr rfl,rfl⟩),.inl rfl,rfl⟩⟩⟩
def adz:∀(f:Nat) (l:e4) (x:e4×aL),gV (fun _=>hp) f l=some x->aJ x.2 5:=by
 intro f;induction f with
 | zero=>intro l x h;cases h
 | succ f aH=>
  intro l x h;rw[gV] at h;obtain⟨a,ak,h⟩:=aV h;split at h
  ·obtain⟨y,hy,h⟩:=aV h;obtain rfl:=bx h;exact .inr (.inl ⟨rfl,(Lo ak).2,aH _ _ hy⟩)
  ·obtain rfl:=bx h;exact .inr (.inl ⟨rfl,(Lo ak).2,by simp[aJ]⟩)
def Ss:∀(f:Nat) (l:e4) (x:e4×aL),gV (fun _=>hp) f l=some x->x.1.length<=l.length:=by
 intro f;induction f with
 | zero=>intro l x h;cases h
 | succ f Ll=>
  intro l x h;rw[gV] at h;obtain⟨a,ak,h⟩:=aV h;have h1:a.1.length<=l.length:=by unfold hp at ak;obtain⟨p,aj,ak⟩:=aV ak;obtain⟨U,ae,ak⟩:=aV ak;obtain⟨C,ag,ak⟩:=aV ak;obtain rfl:=bx ak;exact bX (lp ag) (bX (lp ae) (lp aj))
  split at h
  ·obtain⟨y,hy,h⟩:=aV h;obtain rfl:=bx h;have lq:=Ll _ _ hy;have b5:=mm a.1;show y.1.length<=_;omega
  ·obtain rfl:=bx h;exact h1
def adA:∀(f:Nat) (l:e4) (x:e4×lh),eM f l=some x->1<=x.2.length:=by
 intro f;cases f with
 | zero=>intro l x h;cases h
 | succ f=>
  intro l x h;rw[eM] at h;obtain⟨a,ak,h⟩:=aV h;split at h
  ·obtain⟨y,hy,h⟩:=aV h;obtain rfl:=bx h;simp
  ·obtain rfl:=bx h;simp
def aJ.opt{t:aL}(h:aJ t 1):aJ t 4:=by
 cases t with
 | nil=>simp[aJ] at h
 | cons a b=>simp[aJ] at h
 | query e l w g z=>simp[aJ] at h
 | node k s n v p U=>
  obtain⟨h1,H,ab⟩:=h;refine⟨h1,H,?_⟩;rcases ab with⟨ab | ab | ab,aK,cO⟩ | ab | ab
  ·omega
  ·omega
  ·exact .inl ⟨.inr (.inr ⟨.inr rfl,ab.2⟩),aK,cO⟩
  ·exact .inr (.inl ⟨.inr rfl,ab.2⟩)
  ·exact .inr (.inr ⟨.inr rfl,ab.2⟩)
def adB(N:Nat)(xK:N<=5000):∀f,f<=N->(∀l x,bP f 0 l=some x->aJ x.2 0)/\(∀l x,bP f 1 l=some x->l.length+1<=N->aJ x.2 1)/\(∀l x,bP f 2 l=some x->l.length+1<=N->aJ x.2 2)/\(∀l x,bP f 3 l=some x->aJ x.2 3/\1<=dH x.2/\dH x.2<=f):=by
 intro f;induction f with
 | zero=>intro _;exact⟨(fun l x h=>by cases h),(fun l x h=>by cases h),(fun l x h=>by cases h),(fun l x h=>by cases h)⟩
 | succ f aH=>
  intro cS;obtain⟨i0,cn,i2,i3⟩:=aH r;refine⟨fun l x h=>?_,fun l x h X=>?_,fun l x h X=>?_,fun l x h=>?_⟩
  ·rw[bP] at h;split at h
   ·exact(Lo h).1
   split at h
   ·obtain rfl:=bx h;exact⟨mN,rfl,.inl ⟨.inl ⟨rfl,K,K⟩,.inl rfl,rfl⟩⟩
   split at h
   ·obtain⟨a,ak,h⟩:=aV h;split at h<;>rename_i ai
    ·obtain⟨b,A,h⟩:=aV h;obtain⟨c,_,h⟩:=aV h;obtain rfl:=bx h;have ab:aJ (.cons a.2 (.cons b.2 .nil)) 3:=aJ.two (.inl ⟨rfl,rfl⟩) (i0 _ _ ak) (i0 _ _ A);rcases ai with ai | ai | ai<;>(rw[ai];exact⟨mN,rfl,.inl ⟨.inl ⟨rfl,K,K⟩,ab,rfl⟩⟩)
    ·cases h
   split at h
   ·rename_i ag;obtain⟨a,_,h⟩:=aV h;split at h
    ·obtain⟨c,_,h⟩:=aV h;obtain rfl:=bx h;exact⟨mN,rfl,.inl ⟨.inl ⟨rfl,K,K⟩,.inl rfl,rfl⟩⟩
    ·obtain⟨b,A,h⟩:=aV h;obtain⟨c,_,h⟩:=aV h;obtain rfl:=bx h;have ab:aJ (.cons b.2 .nil) 3:=aJ.one (.inl ⟨rfl,rfl⟩) (i0 _ _ A);rcases(by omega:hk l=26\/hk l=27\/hk l=28\/hk l=29) with ai | ai | ai | ai<;>(rw[ai];exact⟨mN,rfl,.inl ⟨.inl ⟨rfl,K,K⟩,ab,rfl⟩⟩)
   split at h
   ·obtain rfl:=bx h;exact⟨Sr _,rfl,.inl ⟨.inl ⟨rfl,K,K⟩,.inl rfl,rfl⟩⟩
   ·cases h
  ·rw[bP] at h;have au:=mm l;split at h
   ·obtain⟨a,ak,h⟩:=aV h;obtain rfl:=bx h;exact⟨mN,rfl,.inr (.inl ⟨.inl rfl,K,K,aJ.one (.inr ⟨rfl,rfl⟩) (cn _ _ ak r),rfl⟩)⟩
   split at h
   ·obtain⟨a,ak,h⟩:=aV h;obtain⟨b,A,h⟩:=aV h;obtain⟨c,_,h⟩:=aV h;have h1:=lp ak;have ae:=i2 _ _ A r;obtain rfl:=bx h;exact⟨mN,rfl,.inr (.inr ⟨.inl rfl,rfl,rfl,ae⟩)⟩
   split at h
   ·obtain⟨a,ak,h⟩:=aV h;have h1:=nD ak;split at h<;>rename_i ai
    ·obtain⟨b,A,h⟩:=aV h;obtain⟨c,_,h⟩:=aV h;have H:=mm a.1;obtain rfl:=bx h;have ab:aJ (.cons a.2 (.cons b.2 .nil)) 6:=aJ.two (.inr ⟨rfl,rfl⟩) (cn _ _ ak r) (cn _ _ A r);rcases ai with ai | ai<;>(rw[ai];exact⟨mN,rfl,.inr (.inl ⟨.inl rfl,K,K,ab,rfl⟩)⟩)
    ·cases h
   ·obtain⟨a,ak,h⟩:=aV h;split at h
    ·obtain⟨c,_,h⟩:=aV h;obtain rfl:=bx h;exact⟨mN,rfl,.inl ⟨.inr (.inr ⟨.inl rfl,K,K⟩),aJ.one (.inl ⟨rfl,rfl⟩) (i0 _ _ ak),rfl⟩⟩
    split at h<;>rename_i ai
    ·obtain⟨b,A,h⟩:=aV h;obtain rfl:=bx h;have ab:aJ (.cons a.2 (.cons b.2 .nil)) 3:=aJ.two (.inl ⟨rfl,rfl⟩) (i0 _ _ ak) (i0 _ _ A);rcases ai with ai | ai | ai<;>(rw[ai];exact⟨mN,rfl,.inl ⟨.inr (.inr ⟨.inl rfl,K,K⟩),ab,rfl⟩⟩)
    ·cases h
  ·rw[bP] at h;obtain⟨a,ak,h⟩:=aV h;obtain⟨b,A,h⟩:=aV h;obtain⟨c,ai,h⟩:=aV h;obtain⟨aq,bb,h⟩:=aV h;obtain⟨y,hy,h⟩:=aV h;obtain⟨g,R,h⟩:=aV h;obtain⟨z,aY,h⟩:=aV h;have h1:=lp ak;have H:=nD A;have ab:=lp ai;have aK:=Lj _ _ _ bb;obtain⟨Y,am,bm⟩:=i3 _ _ A;have G1:y.1.length<=aq.1.length:=by
    split at hy
    ·have:=mm aq.1;exact bX (nD hy) this
    ·obtain rfl:=bx hy;exact ap
   have Lk:aJ y.2 4:=by
    split at hy
    ·have:=mm aq.1;exact(cn _ _ hy r).opt
    ·obtain rfl:=bx hy;simp[aJ]
   have Bz:aJ g.2 5/\dH g.2<=5000/\g.1.length<=y.1.length:=by
    split at R
    ·obtain⟨dt,rm,R⟩:=aV R;have cO:=lp rm;have cE:=mm y.1;obtain⟨q1,bN⟩:=So (N:=N) _ _ _ R;refine⟨adz _ _ _ R,r,?_⟩;have:=Ss _ _ _ R;omega
    ·obtain rfl:=bx R;exact⟨by simp[aJ],bu,ap⟩
   obtain⟨Lm,ef,sx⟩:=Bz;have Ln:aJ z.2 4:=by
    split at aY
    ·have:=mm g.1;exact(cn _ _ aY r).opt
    ·obtain rfl:=bx aY;simp[aJ]
   have BA:=adA _ _ _ bb;obtain rfl:=bx h;exact⟨rfl,Y,am,r,BA,Lk,Lm,ef,Ln⟩
  ·rw[bP] at h;obtain⟨a,ak,h⟩:=aV h;split at h
   ·obtain⟨b,A,h⟩:=aV h;obtain⟨q1,bN,fR⟩:=i3 _ _ A;obtain rfl:=bx h;exact⟨.inl ⟨rfl,i0 _ _ ak,q1⟩,by show 1<=dH b.2+1;omega,by show dH b.2+1<=_;omega⟩
   ·obtain rfl:=bx h;exact⟨.inl ⟨rfl,i0 _ _ ak,.inl rfl⟩,by show 1<=0+1;omega,by show 0+1<=_;omega⟩
structure eO where
 called:e6
 bl:List (e6×Nat)
variable{D E I:List eO}
def LZ(I:List eO)(m:e6):Option Nat:=I.findIdx? fun s=>decide (s.called=m)
def afd(bl:List (e6×Nat))(m:e6):Option Nat:=bl.findIdx? fun c=>decide (c.1=m)
def L0(I:List eO)(src name:e6):Option (Nat×Nat×Nat):=(LZ I src).bind fun i=>((I[i]?).bind fun s=>(afd s.bl name).map fun j=>(i,j,(s.bl.getD j (⟨#[]⟩,0)).2))
structure az where
 ad:je
 bF:List (je)
 eP:Nat
 dE:Bool
variable{st:az}{act:az->List (je)->az×List (je)}{a8:az->Bool×az}{ba:az->List al×az}
def iX(n:Int):al:=⟨1,n,[]⟩
def lY(n:Int):Int:=max n (-n)
def iY(n:Int)(st:az):al×az:=if 1000000000000<lY n then (al.zero,{st with dE:=true}) else (iX n,st)
def oy(a b:Int)(st:az):al×az:=if b≠0/\(1000000000000:Int).tdiv (lY b)<lY a then (al.zero,{st with dE:=true}) else (iX (a*b),st)
def BP(I:List eO)(st:az)(s n:e6):al:=match L0 I s n with
 | some p=>((st.ad.getD p.1 (0,[])).2).getD p.2.1 al.zero
 | none=>al.zero
def iw(f:az->al×az):List (je)->az->List al×az
 | [],st=>([],st)
 | c::C,st=>((if (f {st with ad:=st.ad.take (st.ad.length-c.length)++c}).1.kind=0 then [] else [(f {st with ad:=st.ad.take (st.ad.length-c.length)++c}).1])++(iw f C (f {st with ad:=st.ad.take (st.ad.length-c.length)++c}).2).1,(iw f C (f {st with ad:=st.ad.take (st.ad.length-c.length)++c}).2).2)
def tW:List UInt8->List UInt8->Int
 | [],[]=>0
 | [],_::_=>-1
 | _::_,[]=>1
 | a::C,b::s=>if a<b then -1 else if a > b then 1 else tW C s
def pO(x y:Int):Int:=if x<y then -1 else if x > y then 1 else 0
def jo(a b:al):Int:=if pO a.kind b.kind=0 then (if pO a.num b.num=0 then tW a.du b.du else pO a.num b.num) else pO a.kind b.kind
def ny:al->List al->al
 | m,[]=>m
 | m,v::C=>ny (if jo v m<0 then v else m) C
def nz:al->List al->al
 | m,[]=>m
 | m,v::C=>nz (if 0<jo v m then v else m) C
def tX(k:Nat)(vs:List al)(st:az):al×az:=if k=8 then (iX vs.length,st) else match vs with
 | []=>(al.zero,st)
 | v::C=>if k=9 then iY ((v::C).foldl (fun t x=>t+x.num) 0) st else if k=10 then (ny v C,st) else (nz v C,st)
def ca(I:List eO)(O:Int):aL->az->al×az
 | .node k s n v .nil _,st=>if k=1 then (BP I st s n,st) else if k=2 then (v,st) else if k=3 then (iX O,st) else (iX st.bF.length,st)
 | .node k _ _ _ (.cons a .nil) _,st=>tX k (iw (ca I O a) st.bF st).1 (iw (ca I O a) st.bF st).2
 | .node k _ _ _ (.cons a (.cons b _)) _,st=>
  if (ca I O a st).1.kind=0\/(ca I O b (ca I O a st).2).1.kind=0 then (al.zero,(ca I O b (ca I O a st).2).2)
  else if k=4 then iY ((ca I O a st).1.num+(ca I O b (ca I O a st).2).1.num) (ca I O b (ca I O a st).2).2
  else if k=5 then iY ((ca I O a st).1.num-(ca I O b (ca I O a st).2).1.num) (ca I O b (ca I O a st).2).2
  else oy (ca I O a st).1.num (ca I O b (ca I O a st).2).1.num (ca I O b (ca I O a st).2).2
 | _,st=>(al.zero,st)
def hL(I:List eO)(O:Int):aL->az->List al×az
 | .cons h t,st=>((ca I O h st).1::(hL I O t (ca I O h st).2).1,(hL I O t (ca I O h st).2).2)
 | _,st=>([],st)
def rC(b:Bool):Int:=if b then 2 else 0
def pP(k:Nat)(a b:al):Int:=if a.kind=0\/b.kind=0 then 1 else rC (if k=16 then decide (jo a b=0) else if k=17 then decide (jo a b<0) else decide (0<jo a b))
def gC(B:List bG)(s:e6×e6):je:=((fD B s.1).bind fun i=>B[i]?.map (·.ad)).getD []
def zQ(B:List bG)(s:e6×e6):List (e6×Nat):=((fD B s.1).bind fun i=>B[i]?.map (·.bl)).getD []
def ea(B:List bG)(V:lh):List eO:=V.map fun s=>⟨s.2,zQ B s⟩
def fY(B:List bG)(V:lh):Nat:=V.foldl (fun n s=>n*(gC B s).length) 1
def mQ(n:Nat)(st:az):az:={st with eP:=st.eP+n,dE:=st.dE||decide (20000<st.eP+n)}
def oz(g:az->List (je)->az×List (je)):je->az->List (je)->az×List (je)
 | [],st,aP=>(st,aP)
 | C::l,st,aP=>oz g l {(g {st with ad:=st.ad++[C]} aP).1 with ad:=(g {st with ad:=st.ad++[C]} aP).1.ad.take ((g {st with ad:=st.ad++[C]} aP).1.ad.length-1)} (g {st with ad:=st.ad++[C]} aP).2
def hB(B:List bG)(act:az->List (je)->az×List (je)):lh->az->List (je)->az×List (je)
 | [],st,aP=>if st.dE then (st,aP) else act st aP
 | s::C,st,aP=>if st.dE then (st,aP) else oz (hB B act C) (gC B s) st aP
def kn(n:Nat):List UInt8:=(Nat.toDigits 10 n).map fun c=>UInt8.ofNat c.toNat
def iI(v:al):List UInt8:=if v.kind=1 then (if v.num<0 then 45::kn v.num.natAbs else kn v.num.natAbs) else if v.kind=2 then [39]++v.du++[39] else [110,117,108,108]
def j6(vs:List al):List UInt8:=vs.flatMap fun v=>iI v++[44]
def qE(keys:List (List UInt8))(L1:List (List (je)))(key:List UInt8)(c:je):List (List UInt8)×List (List (je)):=match keys.findIdx? (fun k=>decide (k=key)) with
 | some i=>(keys,L1.set i (L1.getD i []++[c]))
 | none=>(keys++[key],L1++[[c]])
def qF(f:az->List al×az):List (je)->List (List UInt8)->List (List (je))->az->List (List (je))×az
 | [],_,gs,st=>(gs,st)
 | c::C,ks,gs,st=>qF f C (qE ks gs (j6 (f {st with ad:=st.ad++c}).1) c).1 (qE ks gs (j6 (f {st with ad:=st.ad++c}).1) c).2 {(f {st with ad:=st.ad++c}).2 with ad:=(f {st with ad:=st.ad++c}).2.ad.take ((f {st with ad:=st.ad++c}).2.ad.length-c.length)}
def mp(a8:az->Bool×az)(ba:az->List al×az)(aG:List (je))(st:az):List (List al×List (je))×az:=
 let st1:=(a8 {st with bF:=aG,ad:=st.ad++aG.headD []})
 let st2:=if st1.1 then ba st1.2 else ([],st1.2)
 (if st1.1 then [(st2.1,aG)] else [],{st2.2 with ad:=st2.2.ad.take (st2.2.ad.length-(aG.headD []).length)})
def k8(a8:az->Bool×az)(ba:az->List al×az):List (List (je))->List (List al×List (je))->az->List (List al×List (je))×az
 | [],aP,st=>(aP,st)
 | g::C,aP,st=>if st.dE then ([],st) else k8 a8 ba C (aP++(mp a8 ba g st).1) (mp a8 ba g st).2
def dJ:aL->Bool
 | .nil=>false
 | .cons h t=>dJ h||dJ t
 | .node k _ _ _ p _=>(decide (7<=k)&&decide (k<=11))||dJ p
 | .query _ _ _ _ _=>false
def isNone:aL->Bool
 | .nil=>true
 | _=>false
def wD(e g h:aL):Bool:=!isNone g||!isNone h||dJ e
def iZ(f:az->Int×List (List al×List (je))×az)(t:aL)(st:az):Bool×az:=if isNone t then (true,st) else (decide ((f st).1=2),(f st).2.2)
def iJ(B:List bG)(V:lh)(a8:az->Bool×az)(st:az):az×List (je):=if fY B V=0 then (mQ 0 st,[]) else hB B (fun s aP=>((a8 s).2,if (a8 s).1 then aP++[(a8 s).2.ad.drop st.ad.length] else aP)) V (mQ (fY B V) st) []
def mR(e g h:aL)(f:az->List al×az)(x:az×List (je)):List (List (je))×az:=if wD e g h then (if isNone g then ([x.2],x.1) else qF f x.2 [] [] x.1) else (x.2.map fun c=>[c],x.1)
def bR(B:List bG)(O:Int):aL->List eO->az->Int×List (List al×List (je))×az
 | .node k _ _ _ .nil U,I,st=>if k=15 then (rC (!(bR B O U I st).2.1.isEmpty),[],(bR B O U I st).2.2) else (0,[],st)
 | .node k _ _ _ (.cons a .nil) _,I,st=>
  if k=14 then (2-(bR B O a I st).1,[],(bR B O a I st).2.2) else (rC (decide ((ca I O a st).1.kind=0)),[],(ca I O a st).2)
 | .node k _ _ _ (.cons a (.cons b _)) _,I,st=>
  if k=12 then (min (bR B O a I st).1 (bR B O b I (bR B O a I st).2.2).1,[],(bR B O b I (bR B O a I st).2.2).2.2)
  else if k=13 then (max (bR B O a I st).1 (bR B O b I (bR B O a I st).2.2).1,[],(bR B O b I (bR B O a I st).2.2).2.2)
  else (pP k (ca I O a st).1 (ca I O b (ca I O a st).2).1,[],(ca I O b (ca I O a st).2).2)
 | .query e V wh g h,I,st=>
  let kept:=iJ B V (iZ (bR B O wh (I++ea B V)) wh) st
  let gs:=mR e g h (hL (I++ea B V) O g) kept
  (0,k8 (iZ (bR B O h (I++ea B V)) h) (hL (I++ea B V) O e) gs.1 [] gs.2)
 | _,_,st=>(0,[],st)
def cB:List eO->je->Prop
 | [],[]=>True
 | s::e,C::l=>(C.2.length=s.bl.length/\∀v∈C.2,fv v)/\cB e l
 | _,_=>False
def cB.len:∀{e:List eO} {l:je},cB e l->l.length=e.length
 | [],[],_=>rfl
 | _::_,_::_,h=>by rw[di,di,cB.len h.2]
 | [],_::_,h=>h.elim
 | _::_,[],h=>h.elim
def cB.get:∀{e:List eO} {l:je},cB e l->∀(i:Nat) (h1:i<e.length) (H:i<l.length),l[i].2.length=e[i].bl.length/\∀v∈l[i].2,fv v
 | [],[],_,_,h1,_=>absurd h1 (fp _)
 | _::_,_::_,h,0,_,_=>h.1
 | _::_,_::_,h,i+1,a,b=>cB.get h.2 i (by simpa using a) (by simpa using b)
 | [],_::_,h,_,_,_=>h.elim
 | _::_,[],h,_,_,_=>h.elim
def cB.app:∀{e:List eO} {l:je} {bo:List eO} {lZ:je},cB e l->cB bo lZ->cB (e++bo) (l++lZ)
 | [],[],_,_,_,h=>h
 | _::_,_::_,_,_,h,cC=>⟨h.1,cB.app h.2 cC⟩
 | [],_::_,_,_,h,_=>h.elim
 | _::_,[],_,_,h,_=>h.elim
def cB.cut:∀{e bo:List eO} {l:je},cB (e++bo) l->cB e (l.take e.length)/\cB bo (l.drop e.length)
 | [],_,_,h=>⟨trivial,h⟩
 | _::_,_,_::_,h=>by obtain⟨h1,H⟩:=cB.cut h.2;exact⟨⟨h.1,h1⟩,H⟩
 | _::_,_,[],h=>h.elim
def cB.swap{c7 Y:List eO}{l c:je}(h:cB I l)(he:I=c7++Y)(ai:cB Y c):cB I (l.take (l.length-c.length)++c):=by
 subst he;have h1:=h.len;have H:=ai.len;have ab:l.length-c.length=c7.length:=by rw[cu] at h1;omega
 rw[ab];exact h.cut.1.app ai
structure rD (I:List eO) (aG:List (je)):Prop where
 fit:∀c∈aG,∃c7 Y,I=c7++Y/\cB Y c
 len:aG.length<=20000
def Ef{n:Int}(h1 : -1000000000000<=n)(H:n<=1000000000000):fv (iX n):=⟨by simp[iX],h1,H,fun h=>absurd rfl h,fun _=>rfl,rfl⟩
def L2(n:Int)(st:az):fv (iY n st).1/\(iY n st).2.ad=st.ad/\(iY n st).2.bF=st.bF/\(iY n st).2.eP=st.eP:=by
 unfold iY lY;split
 ·exact⟨mN,rfl,rfl,rfl⟩
 ·exact⟨Ef r r,rfl,rfl,rfl⟩
def afe(a b:Int):lY (a*b)=lY a*lY b:=by
 unfold lY;rcases Int.le_total 0 a with h | h<;>rcases Int.le_total 0 b with g | g
 ·have:=Int.mul_nonneg h g;rw[Int.max_eq_left r,Int.max_eq_left r,Int.max_eq_left r]
 ·have:=Int.mul_nonpos_of_nonneg_of_nonpos h g;rw[Int.max_eq_right r,Int.max_eq_left r,Int.max_eq_right r,Int.mul_neg]
 ·have:=Int.mul_nonpos_of_nonpos_of_nonneg h g;rw[Int.max_eq_right r,Int.max_eq_right r,Int.max_eq_left r,Int.neg_mul]
 ·have:=Int.mul_nonneg_of_nonpos_of_nonpos h g;rw[Int.max_eq_left r,Int.max_eq_right r,Int.max_eq_right r,Int.neg_mul_neg]
def Tj(a b:Int)(st:az):fv (oy a b st).1/\(oy a b st).2.ad=st.ad/\(oy a b st).2.bF=st.bF/\(oy a b st).2.eP=st.eP:=by
 unfold oy;split
 ·exact⟨mN,rfl,rfl,rfl⟩
 ·rename_i h;have A:lY (a*b)<=1000000000000:=by
   by_cases aw:b=0
   ·subst aw;simp[lY]
   ·have h1:lY a<=(1000000000000:Int).tdiv (lY b):=by
     rcases Int.lt_or_le ((1000000000000:Int).tdiv (lY b)) (lY a) with g | g
     ·exact absurd ⟨aw,g⟩ h
     ·exact g
    have aj:0<lY b:=by unfold lY;omega
    rw[afe];have H:(1000000000000:Int).tdiv (lY b)=1000000000000/lY b:=Int.tdiv_eq_ediv_of_nonneg K;rw[H] at h1;exact Int.le_trans (Int.mul_le_mul_of_nonneg_right h1 (Int.le_of_lt aj)) (Int.ediv_mul_le _ r)
  unfold lY at A;exact⟨Ef r r,rfl,rfl,rfl⟩
def Tk{f:az->al×az}(av:∀st,cB I st.ad->st.bF=aG->fv (f st).1/\cB I (f st).2.ad/\(f st).2.bF=aG/\(f st).2.eP=st.eP):∀(l:List (je)) (st:az),(∀c∈l,∃c7 Y,I=c7++Y/\cB Y c)->cB I st.ad->st.bF=aG->(∀v∈(iw f l st).1,fv v)/\(iw f l st).1.length<=l.length/\cB I (iw f l st).2.ad/\(iw f l st).2.bF=aG/\(iw f l st).2.eP=st.eP:=by
 intro l;induction l with
 | nil=>intro st _ h1 H;exact⟨by simp[iw],ap,h1,H,rfl⟩
 | cons c C aH=>
  intro st ai h1 H;obtain⟨c7,Y,he,Hv⟩:=ai c (ax6 ..);obtain⟨f1,f2,f3,f4⟩:=av {st with ad:=st.ad.take (st.ad.length-c.length)++c} (h1.swap he Hv) H;obtain⟨cn,i2,i3,i4,i5⟩:=aH (f {st with ad:=st.ad.take (st.ad.length-c.length)++c}).2 (fun c hm=>ai c (List.mem_cons_of_mem _ hm)) f2 f3;rw[iw];refine⟨fun v hv=>?_,?_,i3,i4,i5.trans f4⟩
  ·rcases ax5 hv with hv | hv
   ·split at hv
    ·cases hv
    ·rw[ic hv];exact f1
   ·exact cn v hv
  ·rw[cu,di];split
   ·simp only[List.length_nil];omega
   ·simp only[di,List.length_nil];omega
def aff:∀(l:List al) (m:al),fv m->(∀v∈l,fv v)->fv (ny m l):=by
 intro l;induction l with
 | nil=>intro m h _;exact h
 | cons v C aH=>
  intro m h X;rw[ny];refine aH _ ?_ (fun x aa=>X x (List.mem_cons_of_mem _ aa));split
  ·exact X v (ax6 ..)
  ·exact h
def afg:∀(l:List al) (m:al),fv m->(∀v∈l,fv v)->fv (nz m l):=by
 intro l;induction l with
 | nil=>intro m h _;exact h
 | cons v C aH=>
  intro m h X;rw[nz];refine aH _ ?_ (fun x aa=>X x (List.mem_cons_of_mem _ aa));split
  ·exact X v (ax6 ..)
  ·exact h
def afh(k:Nat)(vs:List al)(st:az)(hv:∀v∈vs,fv v)(X:vs.length<=20000):fv (tX k vs st).1/\(tX k vs st).2.ad=st.ad/\(tX k vs st).2.bF=st.bF/\(tX k vs st).2.eP=st.eP:=by
 unfold tX;split
 ·exact⟨Ef r r,rfl,rfl,rfl⟩
 ·match vs,hv with
  | [],_=>exact⟨mN,rfl,rfl,rfl⟩
  | v::C,hv=>
   simp only[];split
   ·exact L2 _ _
   ·split
    ·exact⟨aff C v (hv v (ax6 ..)) (fun x aa=>hv x (List.mem_cons_of_mem _ aa)),rfl,rfl,rfl⟩
    ·exact⟨afg C v (hv v (ax6 ..)) (fun x aa=>hv x (List.mem_cons_of_mem _ aa)),rfl,rfl,rfl⟩
def afi(I:List eO)(st:az)(s n:e6)(h:cB E st.ad):fv (BP I st s n):=by
 unfold BP;split
 ·rename_i p _;rw[List.getD_eq_getElem?_getD];have hm:∀v∈(st.ad.getD p.1 (0,[])).2,fv v:=by
   by_cases hi:p.1<st.ad.length
   ·have he:p.1<E.length:=by rw[<-h.len];exact hi
    rw[List.getD_eq_getElem?_getD,fC hi,Option.getD_some];exact(h.get p.1 he hi).2
   ·rw[List.getD_eq_getElem?_getD,List.getElem?_eq_none r,Option.getD_none];intro v hv;cases hv
  cases aa:((st.ad.getD p.1 (0,[])).2)[p.2.1]? with
  | none=>exact mN
  | some v=>exact hm v (List.mem_of_getElem? aa)
 ·exact mN
def eY:aL->Nat
 | .nil=>0
 | .cons h t=>eY h+eY t+1
 | .node _ _ _ _ parts U=>eY parts+eY U+1
 | .query e _ w g h=>eY e+eY w+eY g+eY h+1
def sH{n:e6}{v:al}{p:aL}(h:dJ p=true):dJ (.node k s n v p U)=true:=by rw[dJ,h,Bool.or_true]
def Eg(I E:List eO)(O:Int)(dA : -1000000000000<=O)(er:O<=1000000000000):∀(n:Nat) (t:aL),eY t<=n->∀(st:az),aJ t 0->cB E st.ad->(dJ t=true->rD E st.bF)->fv (ca I O t st).1/\cB E (ca I O t st).2.ad/\(ca I O t st).2.bF=st.bF/\(ca I O t st).2.eP=st.eP:=by
 intro n;induction n with
 | zero=>
  intro t hs st R;cases t with
  | nil=>simp[aJ] at R
  | cons=>simp[aJ] at R
  | node=>simp[eY] at hs
  | query=>simp[aJ] at R
 | succ n aH=>
  intro t hs st R ag ak;cases t with
  | nil=>simp[aJ] at R
  | cons=>simp[aJ] at R
  | query=>simp[aJ] at R
  | node k s dQ v p U=>
   obtain⟨hv,X,aa⟩:=R;have hk:1<=k/\k<=11/\aJ p 3:=by
    rcases aa with⟨aa,ix,_⟩ | ⟨aa,_⟩ | ⟨aa,_⟩
    ·refine⟨r,r,ix⟩
    ·omega
    ·omega
   obtain⟨aI,L3,ix⟩:=hk;cases p with
   | node=>simp[aJ] at ix
   | query=>simp[aJ] at ix
   | nil=>
    rw[ca];split
    ·exact⟨afi _ _ _ _ ag,ag,rfl,rfl⟩
    split
    ·exact⟨hv,ag,rfl,rfl⟩
    split
    ·exact⟨Ef dA er,ag,rfl,rfl⟩
    ·rename_i Y am bm;have kD:k=7:=by
      have:arity k=0:=X.symm;unfold arity at this;split at this
      ·cases this
      ·split at this
       ·cases this
       ·omega
     have:=(ak (by rw[dJ,kD];rfl)).len;exact⟨Ef r r,ag,rfl,rfl⟩
   | cons a C=>
    have ff:eY (.node k s dQ v (.cons a C) U)=eY a+eY C+1+eY U+1:=rfl;have bf:aJ a 0/\aJ C 3:=by
     rcases ix with⟨_,h1,H⟩ | ⟨h,_⟩ | ⟨h,_⟩
     ·exact⟨h1,H⟩
     ·omega
     ·omega
    cases C with
    | node=>have:=bf.2;simp[aJ] at this
    | query=>have:=bf.2;simp[aJ] at this
    | nil=>
     have h1:arity k=1:=X.symm;have oA:8<=k:=by
      unfold arity at h1;split at h1
      ·cases h1
      ·split at h1
       ·omega
       ·cases h1
     have dh:=ak (by rw[dJ,ax3 r,ax3 L3];rfl);rw[ca];have ct:=Tk (f:=ca I O a) (I:=E) (aG:=st.bF) (fun hQ h1 H=>by
      obtain⟨bz,cz,fP,mq⟩:=aH a r hQ bf.1 h1 (fun _=>by rw[H];exact dh);exact⟨bz,cz,fP.trans H,mq⟩) st.bF st dh.fit ag rfl
     obtain⟨jH,k2,rk,mJ,tG⟩:=ct;obtain⟨g1,g2,g3,g4⟩:=afh k _ (iw (ca I O a) st.bF st).2 jH (bX k2 dh.len);exact⟨g1,by rw[g2];exact rk,by rw[g3];exact mJ,by rw[g4];exact tG⟩
    | cons b cA=>
     have ij:aJ b 0:=by
      rcases bf.2 with⟨_,h1,H⟩ | ⟨h,_⟩ | ⟨h,_⟩
      ·exact h1
      ·omega
      ·omega
     have Tl:eY (.cons b cA)=eY b+eY cA+1:=rfl;obtain⟨bq,a2,a3,a4⟩:=aH a r st bf.1 ag (fun h=>ak (sH (by rw[dJ,h,Bool.true_or])));obtain⟨cN,bL,fS,jg⟩:=aH b r (ca I O a st).2 ij a2 (fun h=>by rw[a3];exact ak (sH (by rw[dJ,dJ,h,Bool.true_or,Bool.or_true])));rw[ca];split
     ·exact⟨mN,bL,fS.trans a3,jg.trans a4⟩
     split
     ·obtain⟨c1,c2,dZ,gp⟩:=L2 ((ca I O a st).1.num+(ca I O b (ca I O a st).2).1.num) (ca I O b (ca I O a st).2).2;exact⟨c1,by rw[c2];exact bL,by rw[dZ];exact fS.trans a3,by rw[gp];exact jg.trans a4⟩
     split
     ·obtain⟨c1,c2,dZ,gp⟩:=L2 ((ca I O a st).1.num-(ca I O b (ca I O a st).2).1.num) (ca I O b (ca I O a st).2).2;exact⟨c1,by rw[c2];exact bL,by rw[dZ];exact fS.trans a3,by rw[gp];exact jg.trans a4⟩
     ·obtain⟨c1,c2,dZ,gp⟩:=Tj (ca I O a st).1.num (ca I O b (ca I O a st).2).1.num (ca I O b (ca I O a st).2).2;exact⟨c1,by rw[c2];exact bL,by rw[dZ];exact fS.trans a3,by rw[gp];exact jg.trans a4⟩
structure nW (B:List bG):Prop where
 vc:∀t∈B,t.ad.length<=10000
 fit:∀t∈B,∀C∈t.ad,C.2.length=t.bl.length/\∀v∈C.2,fv v
def L4(B:List bG)(s:e6×e6):(gC B s=[]/\zQ B s=[])\/∃t∈B,gC B s=t.ad/\zQ B s=t.bl:=by
 unfold gC zQ;cases av:fD B s.1 with
 | none=>exact .inl ⟨rfl,rfl⟩
 | some i=>
  simp only[b2];cases au:B[i]? with
  | none=>exact .inl ⟨rfl,rfl⟩
  | some t=>exact .inr ⟨t,List.mem_of_getElem? au,rfl,rfl⟩
def L5(h:nW B)(s:e6×e6):(gC B s).length<=10000:=by
 rcases L4 B s with⟨e,_⟩ | ⟨t,au,e,_⟩
 ·rw[e];exact bu
 ·rw[e];exact h.vc t au
def afj(h:nW B)(s:e6×e6)(ag:row∈gC B s):row.2.length=(zQ B s).length/\∀v∈row.2,fv v:=by
 rcases L4 B s with⟨e,_⟩ | ⟨t,au,e,am⟩
 ·rw[e] at ag;cases ag
 ·rw[e] at ag;rw[am];exact h.fit t au row ag
def L6(B:List bG):∀(l:lh) (n:Nat),l.foldl (fun n s=>n*(gC B s).length) n=n*fY B l
 | [],n=>by simp[fY]
 | s::C,n=>by have h1:=L6 B C (n*(gC B s).length);have H:=L6 B C (1*(gC B s).length);unfold fY at *;rw[List.foldl_cons,List.foldl_cons,h1,H,Nat.one_mul,Nat.mul_assoc]
def L7(B:List bG)(s:e6×e6)(C:lh):fY B (s::C)=(gC B s).length*fY B C:=by have h:=L6 B C (1*(gC B s).length);rw[Nat.one_mul] at h;rw[<-h];unfold fY;rw[List.foldl_cons,Nat.one_mul]
def Tm(h:nW B){l:lh}(X:l.length<=3):fY B l<=1000000000000:=by
 have key:∀l:lh,fY B l<=10000 ^ l.length:=fun l=>by
  induction l with
  | nil=>exact ap
  | cons s C aH=>rw[L7,di,Nat.pow_succ,Nat.mul_comm];exact Nat.mul_le_mul aH (L5 h s)
 refine bX (key l) ?_;match l.length,X with
 | 0,_ | 1,_ | 2,_ | 3,_=>decide
def gI(m:Nat)(st:az):Prop:=st.eP<=20000+m/\(st.dE=false->st.eP<=20000)
def gI.mono{pQ:Nat}(h:gI m st)(hm:m<=pQ):gI pQ st:=⟨by have:=h.1;omega,h.2⟩
def gI.same{hQ:az}(h:gI m st)(hw:hQ.eP=st.eP)(av:st.dE=true->hQ.dE=true):gI m hQ:=⟨by rw[hw];exact h.1,fun e=>by
 rw[hw];apply h.2;cases cf:st.dE with
 | false=>rfl
 | true=>rw[av cf] at e;cases e⟩
def gI.zero(h:gI m st)(av:st.dE=false):gI 0 st:=⟨h.2 av,h.2⟩
def L8(h:gI m st)(ar:n<=1000000000000):gI (m+1000000000000) (mQ n st):=by unfold mQ;refine⟨by show st.eP+n<=_;have:=h.1;omega,fun e=>?_⟩;show st.eP+n<=20000;simp only[Bool.or_eq_false_iff,decide_eq_false_iff_not] at e;omega
def Tn(h:st.dE=true):(mQ n st).dE=true:=by unfold mQ;simp[h]
def nq:aL->Nat
 | .nil=>0
 | .cons h t=>nq h+nq t
 | .node _ _ _ _ p U=>nq p+nq U
 | .query _ _ w _ _=>nq w+1
def dw:aL->Bool
 | .nil=>false
 | .cons h t=>dw h||dw t
 | .node k _ _ _ p _=>decide (k=15)||dw p
 | .query _ _ _ _ _=>false
def rE(l:lh):aL->Prop
 | .nil=>True
 | .cons h t=>rE l h/\rE l t
 | .node k s _ _ p _=>(k=1->∀x∈l,x.2≠s)/\((8<=k/\k<=11)\/rE l p)
 | .query _ _ _ _ _=>True
def mr:aL->Prop
 | .nil=>True
 | .cons h t=>mr h/\mr t
 | .node _ _ _ _ p U=>mr p/\mr U
 | .query e l w g h=>l.length<=3/\dJ w=false/\dw h=false/\mr w/\mr h/\(wD e g h=true->isNone g=true->rE l e/\rE l h)
def Hw{t:aL}(h:aJ t 4):t=.nil\/aJ t 1:=by
 cases t with
 | nil=>exact .inl rfl
 | cons a b=>simp[aJ] at h
 | query e l w g z=>simp[aJ] at h
 | node k s n v p U=>
  obtain⟨h1,H,ab⟩:=h;refine .inr ⟨h1,H,?_⟩;rcases ab with⟨ab | ab | ab,aK,cO⟩ | ab | ab
  ·omega
  ·omega
  ·exact .inl ⟨.inr (.inr ⟨.inl rfl,ab.2⟩),aK,cO⟩
  ·exact .inr (.inl ⟨.inl rfl,ab.2⟩)
  ·exact .inr (.inr ⟨.inl rfl,ab.2⟩)
def To{f:az->al×az}(av:∀st,st.dE=true->(f st).2.dE=true):∀(l:List (je)) (st:az),st.dE=true->(iw f l st).2.dE=true
 | [],_,h=>h
 | c::C,st,h=>by rw[iw];exact To av C _ (av _ h)
def L9{n:Int}(h:st.dE=true):(iY n st).2.dE=true:=by
 unfold iY;split
 ·rfl
 ·exact h
def afk{a b:Int}(h:st.dE=true):(oy a b st).2.dE=true:=by
 unfold oy;split
 ·rfl
 ·exact h
def afl{vs:List al}(h:st.dE=true):(tX k vs st).2.dE=true:=by
 unfold tX;split
 ·exact h
 ·cases vs with
  | nil=>exact h
  | cons v C=>
   simp only[];split
   ·exact L9 h
   ·split<;>exact h
def Hx(I:List eO)(O:Int):∀(n:Nat) (t:aL),eY t<=n->∀(st:az),st.dE=true->(ca I O t st).2.dE=true:=by
 intro n;induction n with
 | zero=>
  intro t hs st h;cases t with
  | nil=>simp only[ca];exact h
  | cons=>simp[eY] at hs
  | node=>simp[eY] at hs
  | query=>simp[eY] at hs
 | succ n aH=>
  intro t hs st h;cases t with
  | nil=>simp only[ca];exact h
  | cons=>simp only[ca];exact h
  | query=>simp only[ca];exact h
  | node k s dQ v p U=>
   cases p with
   | node=>simp only[ca];exact h
   | query=>simp only[ca];exact h
   | nil=>
    rw[ca];split
    ·exact h
    split
    ·exact h
    split<;>exact h
   | cons a C=>
    have ff:eY (.node k s dQ v (.cons a C) U)=eY a+eY C+1+eY U+1:=rfl;cases C with
    | node=>simp only[ca];exact h
    | query=>simp only[ca];exact h
    | nil=>rw[ca];exact afl (To (fun hQ cC=>aH a r hQ cC) _ _ h)
    | cons b cA=>
     have Tl:eY (.cons b cA)=eY b+eY cA+1:=rfl;have H:=aH b r _ (aH a r st h);rw[ca];split
     ·exact H
     split
     ·exact L9 H
     split
     ·exact L9 H
     ·exact afk H
def Ma(I E:List eO)(O:Int)(dA : -1000000000000<=O)(er:O<=1000000000000):∀(e:aL) (st:az),aJ e 3->cB E st.ad->(dJ e=true->rD E st.bF)->(∀v∈(hL I O e st).1,fv v)/\(hL I O e st).1.length=dH e/\cB E (hL I O e st).2.ad/\(hL I O e st).2.bF=st.bF/\(hL I O e st).2.eP=st.eP/\(st.dE=true->(hL I O e st).2.dE=true)
 | .nil,st,_,ag,_=>⟨fun v hv=>(by cases hv),rfl,ag,rfl,rfl,fun h=>h⟩
 | .cons h t,st,R,ag,ak=>by
  have en:aJ h 0/\aJ t 3:=by
   rcases R with⟨_,h1,H⟩ | ⟨h,_⟩ | ⟨h,_⟩
   ·exact⟨h1,H⟩
   ·omega
   ·omega
  obtain⟨bq,a2,a3,a4⟩:=Eg I E O dA er (eY h) h ap st en.1 ag (fun e=>ak (by rw[dJ,e,Bool.true_or]));obtain⟨cN,bL,fS,jg,Eh,Gj⟩:=Ma I E O dA er t (ca I O h st).2 en.2 a2 (fun e=>by rw[a3];exact ak (by rw[dJ,e,Bool.or_true]));rw[hL];refine⟨fun v hv=>?_,by rw[di,bL];rfl,fS,jg.trans a3,Eh.trans a4,fun e=>Gj (Hx I O _ h ap st e)⟩;rcases List.mem_cons.1 hv with rfl | hv
  ·exact bq
  ·exact cN v hv
 | .node _ _ _ _ _ _,_,R,_,_=>by obtain⟨_,_,h⟩:=R;rcases h with⟨h,_⟩ | ⟨h,_⟩ | ⟨h,_⟩<;>omega
 | .query _ _ _ _ _,_,R,_,_=>by have:=R.1;omega
def Tp(I:List eO)(O:Int):∀(g:aL) (st:az),aJ g 5->(hL I O g st).2=st
 | .nil,st,_=>rfl
 | .cons h t,st,R=>by
  have en:aJ h 7/\aJ t 5:=by
   rcases R with⟨h,_⟩ | ⟨_,h1,H⟩ | ⟨h,_⟩
   ·omega
   ·exact⟨h1,H⟩
   ·omega
  have he:(ca I O h st).2=st:=by
   cases h with
   | nil=>have:=en.1;simp[aJ] at this
   | cons=>have:=en.1;simp[aJ] at this
   | query=>have:=en.1;simp[aJ] at this
   | node k s n v p U=>
    obtain⟨_,X,aa⟩:=en.1;obtain rfl:k=1:=by rcases aa with⟨aa,_⟩ | ⟨aa,_⟩ | ⟨aa,_⟩<;>omega
    have ix:aJ p 3:=by
     rcases aa with⟨_,h,_⟩ | ⟨aa,_⟩ | ⟨aa,_⟩
     ·exact h
     ·omega
     ·omega
    cases p with
    | nil=>rw[ca];rfl
    | cons a C=>have:arity 1=0:=rfl;rw[this] at X;simp[dH] at X
    | node=>simp[aJ] at ix
    | query=>simp[aJ] at ix
  rw[hL];simp only[];rw[he];exact Tp I O t st en.2
 | .node _ _ _ _ _ _,_,R=>by obtain⟨_,_,h⟩:=R;rcases h with⟨h,_⟩ | ⟨h,_⟩ | ⟨h,_⟩<;>omega
 | .query _ _ _ _ _,_,R=>by have:=R.1;omega
def afm{P:lh->az->Prop}{Q:List (je)->Prop}(kI:∀{s C st row},P (s::C) st->row∈gC B s->P C {st with ad:=st.ad++[row]})(out:∀{s C fZ st},P (s::C) fZ->P C st->P (s::C) {st with ad:=st.ad.take (st.ad.length-1)})(Mb:∀{st aP},P [] st->Q aP->st.dE=false->P [] (act st aP).1/\Q (act st aP).2):∀(V:lh) (st:az) (aP:List (je)),P V st->Q aP->P V (hB B act V st aP).1/\Q (hB B act V st aP).2:=by
 intro V;induction V with
 | nil=>
  intro st aP gA ik;rw[hB];split
  ·exact⟨gA,ik⟩
  ·rename_i av;exact Mb gA ik (by simpa using av)
 | cons s C aH=>
  intro st aP gA ik;rw[hB];split
  ·exact⟨gA,ik⟩
  ·have key:∀(l:je) (st:az) (aP:List (je)),(∀x∈l,x∈gC B s)->P (s::C) st->Q aP->P (s::C) (oz (hB B act C) l st aP).1/\Q (oz (hB B act C) l st aP).2:=by
    intro l;induction l with
    | nil=>intro st aP _ gA ik;exact⟨gA,ik⟩
    | cons x l Mc=>intro st aP aa gA ik;rw[oz];obtain⟨h1,H⟩:=aH _ aP (kI gA (aa x (ax6 ..))) ik;exact Mc _ _ (fun y hy=>aa y (List.mem_cons_of_mem _ hy)) (out gA h1) H
   exact key _ st aP (fun _ h=>h) gA ik
def afn(grow:∀st aP,(act st aP).2.length<=aP.length+1):∀(V:lh) (st:az) (aP:List (je)),(hB B act V st aP).2.length<=aP.length+fY B V:=by
 intro V;induction V with
 | nil=>
  intro st aP;rw[hB];split
  ·exact Nat.le_add_right _ _
  ·exact grow st aP
 | cons s C aH=>
  intro st aP;rw[hB,L7];split
  ·exact Nat.le_add_right _ _
  ·have key:∀(l:je) (st:az) (aP:List (je)),(oz (hB B act C) l st aP).2.length<=aP.length+l.length*fY B C:=by
    intro l;induction l with
    | nil=>intro st aP;rw[oz];exact Nat.le_add_right _ _
    | cons x l Mc=>intro st aP;rw[oz,di,Nat.add_mul,Nat.one_mul];refine bX (Mc _ _) ?_;have:=aH {st with ad:=st.ad++[x]} aP;omega
   exact key _ st aP
def sI(E:List eO)(B:List bG)(V:lh)(m:Nat)(l:lh)(st:az):Prop:=∃pre,V=pre++l/\cB (E++ea B pre) st.ad/\gI m st
def Tq(B:List bG)(a b:lh):ea B (a++b)=ea B a++ea B b:=by unfold ea;rw[List.map_append]
def Hy(B:List bG)(a:lh):(ea B a).length=a.length:=by unfold ea;rw[cZ]
def sI.len{E:List eO}{B:List bG}{V:lh}{m:Nat}{l:lh}{st:az}(h:sI E B V m l st):st.ad.length+l.length=E.length+V.length:=by obtain⟨pre,rfl,ag,_⟩:=h;rw[ag.len,cu,cu,Hy];omega
def sI.kI(bi:nW B){V:lh}{s:e6×e6}{C:lh}(h:sI E B V m (s::C) st)(ag:row∈gC B s):sI E B V m C {st with ad:=st.ad++[row]}:=by obtain⟨pre,e,h1,H⟩:=h;refine⟨pre++[s],by rw[e,List.append_assoc];rfl,?_,H⟩;rw[Tq,<-List.append_assoc];exact h1.app ⟨afj bi s ag,trivial⟩
def sI.out{V:lh}{s:e6×e6}{C:lh}{fZ:az}(aw:sI E B V m (s::C) fZ)(h:sI E B V m C st):sI E B V m (s::C) {st with ad:=st.ad.take (st.ad.length-1)}:=by
 obtain⟨p0,c7,_,_⟩:=aw;obtain⟨pre,e,h1,H⟩:=h;have Md:pre=p0++[s]:=by
  have:pre++C=(p0++[s])++C:=by rw[<-e,c7,List.append_assoc];rfl
  exact List.append_cancel_right this
 subst Md;refine⟨p0,c7,?_,H⟩;rw[Tq,<-List.append_assoc] at h1;have X:=h1.len;have ab:=h1.cut.1;rw[cu] at X;show cB _ (st.ad.take (st.ad.length-1));rw[X];exact ab
def Tr(_:gI m st)(n:Nat):(mQ n st).dE=true\/n<=20000:=by
 unfold mQ;by_cases h:20000<st.eP+n
 ·left;simp[h]
 ·right;omega
def afo{V:lh}{aP:List (je)}(h:st.dE=true):hB B act V st aP=(st,aP):=by
 cases V with
 | nil=>rw[hB,if_pos h]
 | cons s C=>rw[hB,if_pos h]
def afp(bi:nW B){V:lh}(ab:V.length<=3)(ag:cB E st.ad)(hw:gI m st)(hk:∀s,cB (E++ea B V) s.ad->gI 0 s->cB (E++ea B V) (a8 s).2.ad/\gI k (a8 s).2):cB E (iJ B V a8 st).1.ad/\gI (m+1000000000000+k) (iJ B V a8 st).1/\(∀c∈(iJ B V a8 st).2,cB (ea B V) c)/\(iJ B V a8 st).2.length<=20000:=by
 have Ei:=Tm bi ab;unfold iJ;split
 ·exact⟨ag,(L8 hw bu).mono r,fun c ai=>(by cases ai),bu⟩
 ·have Ej:E.length=st.ad.length:=ag.len.symm;obtain⟨h1,H⟩:=afm (B:=B) (act:=fun s aP=>((a8 s).2,if (a8 s).1 then aP++[(a8 s).2.ad.drop st.ad.length] else aP)) (P:=sI E B V (m+1000000000000+k)) (Q:=fun aP=>∀c∈aP,cB (ea B V) c) (fun h aa=>h.kI bi aa) (fun aw h=>aw.out h) (fun {s aP} gA ik av=>by
   obtain⟨pre,e,p1,p2⟩:=gA;rw[List.append_nil] at e;subst e;obtain⟨q1,bN⟩:=hk s p1 (p2.zero av);refine⟨⟨V,by rw[List.append_nil],q1,bN.mono r⟩,fun c ai=>?_⟩;simp only[] at ai;split at ai
   ·rcases ax5 ai with ai | ai
    ·exact ik c ai
    ·obtain rfl:=ic ai;have:=q1.cut.2;rwa [Ej] at this
   ·exact ik c ai) V (mQ (fY B V) st) [] ⟨[],rfl,by show cB (E++[]) st.ad;rw[List.append_nil];exact ag,(L8 hw Ei).mono r⟩ (fun c ai=>by cases ai)
  obtain⟨pre,e,p1,p2⟩:=h1;have Md:pre=[]:=by have:pre++V=[]++V:=e.symm;exact List.append_cancel_right this
  subst Md;have fw:cB (E++[]) _:=p1;rw[List.append_nil] at fw;refine⟨fw,p2,H,?_⟩;rcases Tr hw (fY B V) with av | nL
  ·rw[afo av];exact bu
  ·refine bX (afn (fun st aP=>?_) V _ []) (by simpa using nL);simp only[];split
   ·rw[cu];exact ap
   ·omega
def afq{V:lh}(h:st.dE=true):(iJ B V a8 st).1.dE=true:=by
 unfold iJ;split
 ·exact Tn h
 ·have ai:(mQ (fY B V) st).dE=true:=Tn h;cases V with
  | nil=>rw[hB,if_pos ai];exact ai
  | cons s C=>rw[hB,if_pos ai];exact ai
def M6(l c:je):(l++c).take ((l++c).length-c.length)=l:=by rw[cu,Nat.add_sub_cancel,List.take_left'];rfl
def ahG{ks:List (List UInt8)}(key:List UInt8){c:je}(ai:Q c)(R:∀g∈gs,g≠[]/\g.length<=j/\∀c∈g,Q c)(X:gs.length<=j):(∀g∈(qE ks gs key c).2,g≠[]/\g.length<=j+1/\∀c∈g,Q c)/\(qE ks gs key c).2.length<=j+1:=by
 unfold qE;split
 ·rename_i i _;refine⟨fun g h=>?_,by show(gs.set i _).length<=_;rw[List.length_set];omega⟩;rcases List.mem_or_eq_of_mem_set h with h | rfl
  ·obtain⟨h1,H,ab⟩:=R g h;exact⟨h1,r,ab⟩
  ·have bb:(gs.getD i []).length<=j/\∀c∈gs.getD i [],Q c:=by
    rw[List.getD_eq_getElem?_getD];cases aa:gs[i]? with
    | none=>exact⟨bu,fun c ai=>by cases ai⟩
    | some g=>obtain⟨_,H,ab⟩:=R g (List.mem_of_getElem? aa);exact⟨H,ab⟩
   refine⟨by simp,by rw[cu];show _+1<=_;omega,fun x aa=>?_⟩;rcases ax5 aa with aa | aa
   ·exact bb.2 x aa
   ·obtain rfl:=ic aa;exact ai
 ·refine⟨fun g h=>?_,by show(gs++[[c]]).length<=_;rw[cu];show _+1<=_;omega⟩;rcases ax5 h with h | h
  ·obtain⟨h1,H,ab⟩:=R g h;exact⟨h1,r,ab⟩
  ·obtain rfl:=ic h;exact⟨by simp,by show 1<=_;omega,fun x aa=>by obtain rfl:=ic aa;exact ai⟩
def Uz{f:az->List al×az}(av:∀s,(f s).2=s){Q:je->Prop}:∀(l:List (je)) (ks:List (List UInt8)) (gs:List (List (je))) (st:az) (j:Nat),(∀c∈l,Q c)->(∀g∈gs,g≠[]/\g.length<=j/\∀c∈g,Q c)->gs.length<=j->(qF f l ks gs st).2=st/\(∀g∈(qF f l ks gs st).1,g≠[]/\g.length<=j+l.length/\∀c∈g,Q c)/\(qF f l ks gs st).1.length<=j+l.length
 | [],_,gs,st,j,_,R,X=>⟨rfl,R,X⟩
 | c::C,ks,gs,st,j,ik,R,X=>by
  obtain⟨p1,p2⟩:=ahG (ks:=ks) (j6 (f {st with ad:=st.ad++c}).1) (ik c (ax6 ..)) R X;obtain⟨q1,bN,fR⟩:=Uz av C (qE ks gs (j6 (f {st with ad:=st.ad++c}).1) c).1 _ {(f {st with ad:=st.ad++c}).2 with ad:=(f {st with ad:=st.ad++c}).2.ad.take ((f {st with ad:=st.ad++c}).2.ad.length-c.length)} (j+1) (fun x aa=>ik x (List.mem_cons_of_mem _ aa)) p1 p2;rw[qF];refine⟨q1.trans ?_,fun g h=>?_,?_⟩
  ·rw[av];simp only[];rw[M6]
  ·obtain⟨h1,H,ab⟩:=bN g h;exact⟨h1,by rw[di];omega,ab⟩
  ·rw[di];omega
def M7{e g:aL}{f:az->List al×az}(av:∀s,(f s).2=s)(x:az×List (je))(ik:∀c∈x.2,Q c):(mR e g h f x).2=x.1/\(∀aG∈(mR e g h f x).1,aG.length<=x.2.length/\(∀c∈aG,Q c)/\(aG=[]->wD e g h=true/\isNone g=true))/\(mR e g h f x).1.length<=x.2.length+1:=by
 unfold mR;split
 ·rename_i h1;split
  ·rename_i H;refine⟨rfl,fun aG R=>?_,by show 1<=_;omega⟩;obtain rfl:=ic R;exact⟨r,ik,fun _=>⟨h1,H⟩⟩
  ·obtain⟨p1,p2,fw⟩:=Uz av (Q:=Q) x.2 [] [] x.1 0 ik (fun g R=>by cases R) ap;refine⟨p1,fun aG R=>?_,r⟩;obtain⟨bq,a2,a3⟩:=p2 aG R;exact⟨r,a3,fun e=>absurd e bq⟩
 ·refine⟨rfl,fun aG R=>?_,by show(x.2.map _).length<=_;rw[cZ];omega⟩;obtain⟨c,ai,rfl⟩:=List.mem_map.1 R;exact⟨List.length_pos_of_mem ai,fun y hy=>by obtain rfl:=ic hy;exact ik _ ai,fun e=>by cases e⟩
def h7(E D:List eO)(aG:List (je)):List eO:=if aG=[] then E else E++D
def UA{l:je}(h:cB E l)(R:∀c∈aG,cB D c):cB (h7 E D aG) (l++aG.headD []):=by
 unfold h7;cases aG with
 | nil=>rw[if_pos rfl];show cB E (l++[]);rw[List.append_nil];exact h
 | cons c C=>rw[if_neg (by simp)];exact h.app (R c (ax6 ..))
def H5{l:je}(h:cB (h7 E D aG) l)(R:∀c∈aG,cB D c):cB E (l.take (l.length-(aG.headD []).length)):=by
 unfold h7 at h;cases aG with
 | nil=>rw[if_pos rfl] at h;show cB E (l.take (l.length-0));rw[Nat.sub_zero,List.take_length];exact h
 | cons c C=>rw[if_neg (by simp)] at h;have h1:=h.len;have H:=(R c (ax6 ..)).len;rw[cu] at h1;show cB E (l.take (l.length-c.length));rw[show l.length-c.length=E.length by omega];exact h.cut.1
def H6(R:∀c∈aG,cB D c)(X:aG.length<=20000):rD (h7 E D aG) aG:=by refine⟨fun c ai=>?_,X⟩;unfold h7;rw[if_neg (by rintro rfl;cases ai)];exact⟨E,D,rfl,R c ai⟩
structure H7 (D:List eO) (n:Nat) (x:List al×List (je)):Prop where
 ba:∀v∈x.1,fv v
 len:x.1.length=n
 fit:∀c∈x.2,cB D c
 vc:x.2.length<=20000
structure Left (E:List eO) (s fu:az):Prop where
 ad:cB E fu.ad
 bF:fu.bF=s.bF
 eP:fu.eP=s.eP
 dE:s.dE=true->fu.dE=true
def ahH(R:∀c∈aG,cB D c)(X:aG.length<=20000)(hk:∀s,cB (h7 E D aG) s.ad->rD (h7 E D aG) s.bF->Left (h7 E D aG) s (a8 s).2)(hv:∀s,cB (h7 E D aG) s.ad->rD (h7 E D aG) s.bF->Left (h7 E D aG) s (ba s).2/\(∀v∈(ba s).1,fv v)/\(ba s).1.length=n)(ag:cB E st.ad):cB E (mp a8 ba aG st).2.ad/\(mp a8 ba aG st).2.eP=st.eP/\(st.dE=true->(mp a8 ba aG st).2.dE=true)/\(∀x∈(mp a8 ba aG st).1,H7 D n x)/\(mp a8 ba aG st).1.length<=1:=by
 have dh:=H6 (E:=E) R X;have k:=hk {st with bF:=aG,ad:=st.ad++aG.headD []} (UA ag R) dh;unfold mp;simp only[];split
 ·obtain⟨v,v1,v2⟩:=hv _ k.ad (by rw[k.bF];exact dh);refine⟨H5 v.ad R,v.eP.trans k.eP,fun e=>v.dE (k.dE e),fun x aa=>?_,ap⟩;obtain rfl:=ic aa;exact⟨v1,v2,R,X⟩
 ·exact⟨H5 k.ad R,k.eP,fun e=>k.dE e,fun x aa=>(by cases aa),bu⟩
def M8{E D:List eO}{n:Nat}{a8:az->Bool×az}{ba:az->List al×az}:∀(gs:List (List (je))) (aP:List (List al×List (je))) (st:az),(∀aG∈gs,(∀c∈aG,cB D c)/\aG.length<=20000/\(∀s,cB (h7 E D aG) s.ad->rD (h7 E D aG) s.bF->Left (h7 E D aG) s (a8 s).2)/\∀s,cB (h7 E D aG) s.ad->rD (h7 E D aG) s.bF->Left (h7 E D aG) s (ba s).2/\(∀v∈(ba s).1,fv v)/\(ba s).1.length=n)->cB E st.ad->(∀x∈aP,H7 D n x)->cB E (k8 a8 ba gs aP st).2.ad/\(k8 a8 ba gs aP st).2.eP=st.eP/\(st.dE=true->(k8 a8 ba gs aP st).2.dE=true)/\(∀x∈(k8 a8 ba gs aP st).1,H7 D n x)/\(k8 a8 ba gs aP st).1.length<=aP.length+gs.length
 | [],aP,st,_,ag,ak=>⟨ag,rfl,fun h=>h,ak,ap⟩
 | g::C,aP,st,sx,ag,ak=>by
  rw[k8];split
  ·exact⟨ag,rfl,fun h=>h,fun x aa=>(by cases aa),bu⟩
  ·obtain⟨g1,g2,g3,g4⟩:=sx g (ax6 ..);obtain⟨jH,k2,rk,mJ,tG⟩:=ahH g1 g2 g3 g4 ag;obtain⟨bq,a2,a3,a4,a5⟩:=M8 C (aP++(mp a8 ba g st).1) (mp a8 ba g st).2 (fun x aa=>sx x (List.mem_cons_of_mem _ aa)) jH (fun x aa=>by
    rcases ax5 aa with aa | aa
    ·exact ak x aa
    ·exact mJ x aa)
   refine⟨bq,a2.trans k2,fun e=>a3 (rk e),a4,?_⟩;rw[cu] at a5;rw[di];omega
def M9(b:Bool):0<=rC b/\rC b<=2:=by cases b<;>decide
def ahI(k:Nat)(a b:al):0<=pP k a b/\pP k a b<=2:=by
 unfold pP;split
 ·decide
 ·exact M9 _
def EW(B:List bG)(O:Int)(t:aL):Prop:=∀(I E:List eO) (st:az) (m:Nat),aJ t 1->mr t->cB E st.ad->(dJ t=true->rD E st.bF/\dw t=false)->(dw t=true->gI m st)->(0<=(bR B O t I st).1/\(bR B O t I st).1<=2)/\cB E (bR B O t I st).2.2.ad/\(gI m st->gI (m+1000000000000*nq t) (bR B O t I st).2.2)/\(st.dE=true->(bR B O t I st).2.2.dE=true)/\(dw t=false->(bR B O t I st).2.2.bF=st.bF/\(bR B O t I st).2.2.eP=st.eP)
def ahJ(B:List bG)(O:Int)(t:aL):Prop:=∀(I E:List eO) (st:az) (m:Nat),aJ t 2->mr t->cB E st.ad->gI m st->cB E (bR B O t I st).2.2.ad/\gI (m+1000000000000*nq t) (bR B O t I st).2.2/\(st.dE=true->(bR B O t I st).2.2.dE=true)
def UB{t:aL}(h:EW B O t)(R:aJ t 4)(hs:mr t)(ak:dJ t=false)(I:List eO)(ag:cB E st.ad)(hw:gI m st):cB E (iZ (bR B O t I) t st).2.ad/\gI (m+1000000000000*nq t) (iZ (bR B O t I) t st).2:=by
 rcases Hw R with rfl | R
 ·exact⟨ag,hw.mono (Nat.le_add_right _ _)⟩
 ·unfold iZ;split
  ·exact⟨ag,hw.mono (Nat.le_add_right _ _)⟩
  ·obtain⟨_,H,ab,_⟩:=h I E st m R hs ag (fun e=>by rw[ak] at e;cases e) (fun _=>hw);exact⟨H,ab hw⟩
def ahK{t:aL}(h:EW B O t)(R:aJ t 4)(hs:mr t)(aa:dw t=false)(I:List eO)(ag:cB E st.ad)(dh:rD E st.bF):Left E st (iZ (bR B O t I) t st).2:=by
 rcases Hw R with rfl | R
 ·exact⟨ag,rfl,rfl,fun h=>h⟩
 ·unfold iZ;split
  ·exact⟨ag,rfl,rfl,fun h=>h⟩
  ·obtain⟨_,H,_,aK,cO⟩:=h I E st 0 R hs ag (fun _=>⟨dh,aa⟩) (fun e=>by rw[aa] at e;cases e);exact⟨H,(cO aa).1,(cO aa).2,aK⟩
def H8(B:List bG)(O:Int)(k:Nat)(s n:e6)(v:al)(a b C U:aL)(I:List eO)(st:az):bR B O (.node k s n v (.cons a (.cons b C)) U) I st=if k=12 then (min (bR B O a I st).1 (bR B O b I (bR B O a I st).2.2).1,[],(bR B O b I (bR B O a I st).2.2).2.2) else if k=13 then (max (bR B O a I st).1 (bR B O b I (bR B O a I st).2.2).1,[],(bR B O b I (bR B O a I st).2.2).2.2) else (pP k (ca I O a st).1 (ca I O b (ca I O a st).2).1,[],(ca I O b (ca I O a st).2).2):=by rw[bR]
def H9(B:List bG)(O:Int)(k:Nat)(s n:e6)(v:al)(a U:aL)(I:List eO)(st:az):bR B O (.node k s n v (.cons a .nil) U) I st=if k=14 then (2-(bR B O a I st).1,[],(bR B O a I st).2.2) else (rC (decide ((ca I O a st).1.kind=0)),[],(ca I O a st).2):=by rw[bR]
def UC(B:List bG)(O:Int)(k:Nat)(s n:e6)(v:al)(U:aL)(I:List eO)(st:az):bR B O (.node k s n v .nil U) I st=if k=15 then (rC (!(bR B O U I st).2.1.isEmpty),[],(bR B O U I st).2.2) else (0,[],st):=by rw[bR]
def Ia(B:List bG)(O:Int)(e:aL)(V:lh)(wh g h:aL)(I:List eO)(st:az):bR B O (.query e V wh g h) I st=(0,k8 (iZ (bR B O h (I++ea B V)) h) (hL (I++ea B V) O e) (mR e g h (hL (I++ea B V) O g) (iJ B V (iZ (bR B O wh (I++ea B V)) wh) st)).1 [] (mR e g h (hL (I++ea B V) O g) (iJ B V (iZ (bR B O wh (I++ea B V)) wh) st)).2):=by rw[bR]
def Ib{C:aL}(h:aJ (.cons a C) 3):aJ a 0/\aJ C 3:=by
 rcases h with⟨_,h1,H⟩ | ⟨h,_⟩ | ⟨h,_⟩
 ·exact⟨h1,H⟩
 ·omega
 ·omega
def UD{C:aL}(h:aJ (.cons a C) 6):aJ a 1/\aJ C 6:=by
 rcases h with⟨h,_⟩ | ⟨h,_⟩ | ⟨_,h1,H⟩
 ·omega
 ·omega
 ·exact⟨h1,H⟩
def Ca{t:aL}(h:aJ t 1):(∃k s n v a b,t=.node k s n v (.cons a (.cons b .nil)) .nil/\16<=k/\k<=18/\aJ a 0/\aJ b 0)\/(∃s n v a,t=.node 19 s n v (.cons a .nil) .nil/\aJ a 0)\/(∃k s n v a b,t=.node k s n v (.cons a (.cons b .nil)) .nil/\12<=k/\k<=13/\aJ a 1/\aJ b 1)\/(∃s n v a,t=.node 14 s n v (.cons a .nil) .nil/\aJ a 1)\/(∃s n v U,t=.node 15 s n v .nil U/\aJ U 2):=by
 cases t with
 | nil=>simp[aJ] at h
 | cons=>simp[aJ] at h
 | query=>simp[aJ] at h
 | node k s n v p U=>
  obtain⟨_,X,aa⟩:=h;rcases aa with⟨aa,ix,rfl⟩ | ⟨_,h1,H,ix,rfl⟩ | ⟨_,rfl,rfl,qL⟩
  ·have hk:16<=k/\k<=19:=r;cases p with
   | node=>simp[aJ] at ix
   | query=>simp[aJ] at ix
   | nil=>simp only[dH] at X;unfold arity at X;split at X;cases X;split at X;cases X;omega
   | cons a C=>
    obtain⟨bf,fi⟩:=Ib ix;cases C with
    | node=>simp[aJ] at fi
    | query=>simp[aJ] at fi
    | nil=>
     simp only[dH] at X;unfold arity at X;split at X
     ·cases X
     ·exact .inr (.inl ⟨s,n,v,a,by rw[show k=19 by omega],bf⟩)
    | cons b cA=>
     obtain⟨ij,EX⟩:=Ib fi;have:dH (.cons a (.cons b cA))=dH cA+1+1:=rfl;rw[this] at X;have aw:dH cA=0/\k≠19:=by unfold arity at X;split at X;constructor<;>omega;split at X<;>omega
     cases cA with
     | nil=>exact .inl ⟨k,s,n,v,a,b,rfl,hk.1,r,bf,ij⟩
     | cons=>have:=aw.1;simp[dH] at this
     | node=>simp[aJ] at EX
     | query=>simp[aJ] at EX
  ·cases p with
   | node=>simp[aJ] at ix
   | query=>simp[aJ] at ix
   | nil=>simp only[dH] at X;unfold arity at X;split at X;cases X;split at X;cases X;omega
   | cons a C=>
    obtain⟨bf,fi⟩:=UD ix;cases C with
    | node=>simp[aJ] at fi
    | query=>simp[aJ] at fi
    | nil=>
     simp only[dH] at X;unfold arity at X;split at X
     ·cases X
     ·exact .inr (.inr (.inr (.inl ⟨s,n,v,a,by rw[show k=14 by omega],bf⟩)))
    | cons b cA=>
     obtain⟨ij,EX⟩:=UD fi;have:dH (.cons a (.cons b cA))=dH cA+1+1:=rfl;rw[this] at X;have aw:dH cA=0/\k≠14:=by unfold arity at X;split at X;constructor<;>omega;split at X<;>omega
     cases cA with
     | nil=>exact .inr (.inr (.inl ⟨k,s,n,v,a,b,rfl,h1,r,bf,ij⟩))
     | cons=>have:=aw.1;simp[dH] at this
     | node=>simp[aJ] at EX
     | query=>simp[aJ] at EX
  ·exact .inr (.inr (.inr (.inr ⟨s,n,v,U,rfl,qL⟩)))
def Ic(bi:nW B)(dA : -1000000000000<=O)(er:O<=1000000000000){e wh g:aL}{V:lh}(hw:EW B O wh)(cf:EW B O h)(R:aJ (.query e V wh g h) 2)(hs:mr (.query e V wh g h))(I:List eO)(ag:cB E st.ad)(ct:gI m st):(cB E (iJ B V (iZ (bR B O wh I) wh) st).1.ad/\gI (m+1000000000000+1000000000000*nq wh) (iJ B V (iZ (bR B O wh I) wh) st).1/\(∀c∈(iJ B V (iZ (bR B O wh I) wh) st).2,cB (ea B V) c)/\(iJ B V (iZ (bR B O wh I) wh) st).2.length<=20000)/\(∀s,(hL I O g s).2=s)/\(∀(vj:List eO) (s:az),cB vj s.ad->rD vj s.bF->Left vj s (iZ (bR B O h I) h s).2)/\(∀(vj:List eO) (s:az),cB vj s.ad->rD vj s.bF->Left vj s (hL I O e s).2/\(∀v∈(hL I O e s).1,fv v)/\(hL I O e s).1.length=dH e):=by
 obtain⟨_,ge,_,_,_,mU,il,_,jO⟩:=R;obtain⟨dd,eD,zt,Ie,sh,-⟩:=hs;refine⟨afp bi dd ag ct (fun s h1 H=>?_),fun s=>Tp I O g s il,fun vj s h1 H=>ahK cf jO sh zt I h1 H,fun vj s h1 H=>?_⟩
 ·have:=UB hw mU Ie eD I h1 H;rwa [ax1] at this
 ·obtain⟨v1,v2,v3,v4,v5,v6⟩:=Ma I vj O dA er e s ge h1 (fun _=>H);exact⟨⟨v3,v4,v5,v6⟩,v1,v2⟩
def ym(bi:nW B)(dA : -1000000000000<=O)(er:O<=1000000000000):∀(n:Nat) (t:aL),eY t<=n->EW B O t/\ahJ B O t:=by
 intro n;induction n with
 | zero=>
  intro t hs;refine⟨fun I E st m R=>?_,fun I E st m R=>?_⟩
  ·rcases Ca R with⟨_,_,_,_,_,_,rfl,_⟩ | ⟨_,_,_,_,rfl,_⟩ | ⟨_,_,_,_,_,_,rfl,_⟩ | ⟨_,_,_,_,rfl,_⟩ | ⟨_,_,_,_,rfl,_⟩<;>simp[eY] at hs
  ·cases t with
   | query=>simp[eY] at hs
   | nil=>simp[aJ] at R
   | cons=>simp[aJ] at R
   | node=>simp[eY] at hs
 | succ n aH=>
  intro t hs;refine⟨fun I E st m R cv ag ak hw=>?_,fun I E st m R cv ag hw=>?_⟩
  ·rcases Ca R with⟨k,s,dQ,v,a,b,rfl,aI,aZ,bf,ij⟩ | ⟨s,dQ,v,a,rfl,bf⟩ | ⟨k,s,dQ,v,a,b,rfl,aI,aZ,bf,ij⟩ | ⟨s,dQ,v,a,rfl,bf⟩ | ⟨s,dQ,v,U,rfl,qL⟩
   ·have oA:∀x,dJ x=true->(x=a\/x=b)->rD E st.bF:=fun x aa e=>(ak (sH (by rw[dJ,dJ];rcases e with rfl | rfl<;>rw[aa]<;>simp))).1;obtain⟨bq,a2,a3,a4⟩:=Eg I E O dA er (eY a) a ap st bf ag (fun e=>oA a e (.inl rfl));obtain⟨cN,bL,fS,jg⟩:=Eg I E O dA er (eY b) b ap (ca I O a st).2 ij a2 (fun e=>by rw[a3];exact oA b e (.inr rfl));have av:st.dE=true->(ca I O b (ca I O a st).2).2.dE=true:=fun e=>Hx I O _ b ap _ (Hx I O _ a ap _ e);rw[H8,if_neg r,if_neg r];exact⟨ahI _ _ _,bL,fun h=>(h.same (jg.trans a4) av).mono (Nat.le_add_right _ _),av,fun _=>⟨fS.trans a3,jg.trans a4⟩⟩
   ·obtain⟨bq,a2,a3,a4⟩:=Eg I E O dA er (eY a) a ap st bf ag (fun e=>(ak (sH (by rw[dJ,e];rfl))).1);have av:st.dE=true->(ca I O a st).2.dE=true:=fun e=>Hx I O _ a ap _ e;rw[H9,if_neg r];exact⟨M9 _,a2,fun h=>(h.same a4 av).mono (Nat.le_add_right _ _),av,fun _=>⟨a3,a4⟩⟩
   ·have ff:eY (.node k s dQ v (.cons a (.cons b .nil)) .nil)=eY a+(eY b+0+1)+1+0+1:=rfl;have mW:nq (.node k s dQ v (.cons a (.cons b .nil)) .nil)=nq a+(nq b+0)+0:=rfl;have hex:dw (.node k s dQ v (.cons a (.cons b .nil)) .nil)=(dw a||(dw b||false)):=by rw[dw,dw,dw,dw,ax2 r,Bool.false_or]
    have Nb:dJ (.node k s dQ v (.cons a (.cons b .nil)) .nil)=(dJ a||(dJ b||false)):=by rw[dJ,dJ,dJ,dJ,ax2 (show ¬k<=11 by omega),Bool.and_false,Bool.false_or]
    rw[hex,Nb] at ak;rw[hex] at hw ⊢;obtain⟨⟨eD,yn,_⟩,_⟩:=cv;obtain⟨⟨bq,ahL⟩,a2,a3,a4,a5⟩:=(aH a r).1 I E st m bf eD ag (fun e=>by
     obtain⟨h1,H⟩:=ak (by rw[e];rfl);exact⟨h1,(Bool.or_eq_false_iff.1 H).1⟩) (fun e=>hw (by rw[e];rfl))
    obtain⟨⟨cN,ash⟩,bL,fS,jg,Eh⟩:=(aH b r).1 I E (bR B O a I st).2.2 (m+1000000000000*nq a) ij yn a2 (fun e=>by
     obtain⟨h1,H⟩:=ak (by rw[e];simp);obtain⟨ab,aK⟩:=Bool.or_eq_false_iff.1 H;rw[(a5 ab).1];exact⟨h1,by simpa using aK⟩) (fun e=>a3 (hw (by rw[e];simp)))
    have key:cB E (bR B O b I (bR B O a I st).2.2).2.2.ad/\(gI m st->gI (m+1000000000000*nq (.node k s dQ v (.cons a (.cons b .nil)) .nil)) (bR B O b I (bR B O a I st).2.2).2.2)/\(st.dE=true->(bR B O b I (bR B O a I st).2.2).2.2.dE=true)/\((dw a||(dw b||false))=false->(bR B O b I (bR B O a I st).2.2).2.2.bF=st.bF/\(bR B O b I (bR B O a I st).2.2).2.2.eP=st.eP):=by
     refine⟨bL,fun h=>(fS (a3 h)).mono (by rw[mW];omega),fun e=>jg (a4 e),fun e=>?_⟩;obtain⟨ab,aK⟩:=Bool.or_eq_false_iff.1 e;have aK:dw b=false:=by simpa using aK
     exact⟨(Eh aK).1.trans (a5 ab).1,(Eh aK).2.trans (a5 ab).2⟩
    rw[H8];by_cases hk:k=12
    ·rw[if_pos hk];exact⟨⟨by simp only[];omega,by simp only[];omega⟩,key⟩
    ·rw[if_neg hk,if_pos r];exact⟨⟨by simp only[];omega,by simp only[];omega⟩,key⟩
   ·have ff:eY (.node 14 s dQ v (.cons a .nil) .nil)=eY a+0+1+0+1:=rfl;have mW:nq (.node 14 s dQ v (.cons a .nil) .nil)=nq a+0+0:=rfl;have hex:dw (.node 14 s dQ v (.cons a .nil) .nil)=(dw a||false):=by rw[dw,dw,dw,ax2 r,Bool.false_or]
    have Nb:dJ (.node 14 s dQ v (.cons a .nil) .nil)=(dJ a||false):=by rw[dJ,dJ,dJ,ax2 (show ¬14<=11 by omega),Bool.and_false,Bool.false_or]
    rw[hex,Nb,Bool.or_false,Bool.or_false] at ak;rw[hex,Bool.or_false] at hw ⊢;obtain⟨⟨bq,ahL⟩,a2,a3,a4,a5⟩:=(aH a r).1 I E st m bf cv.1.1 ag ak hw;rw[H9,if_pos rfl,mW];exact⟨⟨by simp only[];omega,by simp only[];omega⟩,a2,a3,a4,a5⟩
   ·have ff:eY (.node 15 s dQ v .nil U)=0+eY U+1:=rfl;have mW:nq (.node 15 s dQ v .nil U)=0+nq U:=rfl;have hex:dw (.node 15 s dQ v .nil U)=true:=by rw[dw];rfl
    obtain⟨q1,bN,fR⟩:=(aH U r).2 I E st m qL cv.2 ag (hw hex);rw[UC,if_pos rfl,mW,ax1];exact⟨M9 _,q1,fun _=>bN,fR,fun e=>by rw[hex] at e;cases e⟩
  ·cases t with
   | nil=>simp[aJ] at R
   | cons=>simp[aJ] at R
   | node=>obtain⟨_,_,h⟩:=R;rcases h with⟨h,_⟩ | ⟨h,_⟩ | ⟨h,_⟩<;>omega
   | query e V wh g h=>
    have ff:eY (.query e V wh g h)=eY e+eY wh+eY g+eY h+1:=rfl;obtain⟨⟨p1,p2,fw,pf⟩,rR,sQ,vk⟩:=Ic bi dA er (aH wh r).1 (aH h r).1 R cv (I++ea B V) ag hw;obtain⟨g1,g2,g3⟩:=M7 (e:=e) (g:=g) (h:=h) rR (Q:=cB (ea B V)) (iJ B V (iZ (bR B O wh (I++ea B V)) wh) st) fw;obtain⟨bq,a2,a3,a4,a5⟩:=M8 (E:=E) (D:=ea B V) (n:=dH e) (a8:=iZ (bR B O h (I++ea B V)) h) (ba:=hL (I++ea B V) O e) (mR e g h (hL (I++ea B V) O g) (iJ B V (iZ (bR B O wh (I++ea B V)) wh) st)).1 [] (mR e g h (hL (I++ea B V) O g) (iJ B V (iZ (bR B O wh (I++ea B V)) wh) st)).2 (fun aG hm=>by
     obtain⟨bz,cz,_⟩:=g2 aG hm;exact⟨cz,r,fun s=>sQ _ s,fun s=>vk _ s⟩) (by rw[g1];exact p1) (fun x aa=>by cases aa)
    rw[Ia];refine⟨bq,(p2.same (a2.trans (by rw[g1])) (fun e=>a3 (by rw[g1];exact e))).mono ?_,fun e=>a3 (by rw[g1];exact afq e)⟩;have mW:nq (.query e V wh g h)=nq wh+1:=rfl;rw[mW];omega
structure Ord {α:Type} (ew:α->α->Int):Prop where
 refl:∀x,ew x x=0
 mX:∀x y,ew y x = - ew x y
 trans:∀x y z,ew x y<=0->ew y z<=0->ew x z<=0
def Ord.lt{α:Type}{ew:α->α->Int}(h:Ord ew){x y z:α}(h1:ew x y<=0)(H:ew y z<=0)(ab:ew x y<0\/ew y z<0):ew x z<0:=by
 have aK:=h.trans x y z h1 H;rcases Int.lt_or_eq_of_le aK with cO | cO
 ·exact cO
 ·have a:=h.mX x z;rcases ab with ab | ab
  ·have:=h.trans y z x H r;have:=h.mX x y;omega
  ·have:=h.trans z x y r h1;have:=h.mX y z;omega
def If:Ord pO:=by
 refine⟨fun x=>?_,fun x y=>?_,fun x y z=>?_⟩<;>unfold pO
 ·split<;>omega
 ·split<;>split<;>omega
 ·split<;>split<;>split<;>omega
def sR{α:Type}(a b:α->α->Int)(x y:α):Int:=if a x y=0 then b x y else a x y
def Ig{α:Type}{a b:α->α->Int}(ak:Ord a)(A:Ord b):Ord (sR a b):=by
 refine⟨fun x=>?_,fun x y=>?_,fun x y z h1 H=>?_⟩
 ·unfold sR;rw[if_pos (ak.refl x)];exact A.refl x
 ·unfold sR;have e:=ak.mX x y;by_cases h:a x y=0
  ·rw[if_pos h,if_pos r];exact A.mX x y
  ·rw[if_neg h,if_neg r];exact e
 ·unfold sR at *;by_cases aa:a x y=0
  ·rw[if_pos aa] at h1;by_cases hy:a y z=0
   ·rw[if_pos hy] at H;have Y:=ak.trans x y z r r;have am:=ak.trans z y x (by have:=ak.mX y z;omega) (by have:=ak.mX x y;omega);have bm:=ak.mX x z;rw[if_pos r];exact A.trans x y z h1 H
   ·rw[if_neg hy] at H;have:=ak.lt (x:=x) (y:=y) (z:=z) r H (.inr r);rw[if_neg r];omega
  ·rw[if_neg aa] at h1;by_cases hy:a y z=0
   ·have:=ak.lt (x:=x) (y:=y) (z:=z) h1 r (.inl r);rw[if_neg r];omega
   ·rw[if_neg hy] at H;have:=ak.lt (x:=x) (y:=y) (z:=z) h1 H (.inl r);rw[if_neg r];omega
def wO{α β:Type}{ew:β->β->Int}(h:Ord ew)(f:α->β):Ord (fun x y=>ew (f x) (f y)):=⟨fun _=>h.refl _,fun _ _=>h.mX _ _,fun _ _ _=>h.trans _ _ _⟩
def gl{α:Type}(ew:α->α->Int):List α->List α->Int
 | [],[]=>0
 | [],_::_=>-1
 | _::_,[]=>1
 | x::C,y::s=>if ew x y=0 then gl ew C s else ew x y
def Nc{α:Type}{ew:α->α->Int}(h:Ord ew):Ord (gl ew):=by
 refine⟨fun x=>?_,fun x=>?_,fun x=>?_⟩
 ·induction x with
  | nil=>rfl
  | cons a C aH=>rw[gl,if_pos (h.refl a)];exact aH
 ·induction x with
  | nil=>intro y;cases y<;>simp[gl]
  | cons a C aH=>
   intro y;cases y with
   | nil=>simp[gl]
   | cons b s=>
    rw[gl,gl];have e:=h.mX a b;by_cases aw:ew a b=0
    ·rw[if_pos aw,if_pos r];exact aH s
    ·rw[if_neg aw,if_neg r];exact e
 ·induction x with
  | nil=>
   intro y z h1 H;cases z with
   | nil=>simp[gl]
   | cons=>simp[gl]
  | cons a C aH=>
   intro y z h1 H;cases y with
   | nil=>simp[gl] at h1
   | cons b s=>
    cases z with
    | nil=>simp[gl] at H
    | cons c t=>
     rw[gl] at h1 H ⊢;by_cases aa:ew a b=0
     ·rw[if_pos aa] at h1;by_cases hy:ew b c=0
      ·rw[if_pos hy] at H;have Y:=h.trans a b c r r;have am:=h.trans c b a (by have:=h.mX b c;omega) (by have:=h.mX a b;omega);have bm:=h.mX a c;rw[if_pos r];exact aH s t h1 H
      ·rw[if_neg hy] at H;have:=h.lt (x:=a) (y:=b) (z:=c) r H (.inr r);rw[if_neg r];omega
     ·rw[if_neg aa] at h1;by_cases hy:ew b c=0
      ·have:=h.lt (x:=a) (y:=b) (z:=c) h1 r (.inl r);rw[if_neg r];omega
      ·rw[if_neg hy] at H;have:=h.lt (x:=a) (y:=b) (z:=c) h1 H (.inl r);rw[if_neg r];omega
def Ih{α:Type}{ew:α->α->Int}(aw:∀x y,ew x y=0->x=y):∀(l m:List α),gl ew l m=0->l=m
 | [],[],_=>rfl
 | [],_::_,h=>by simp[gl] at h
 | _::_,[],h=>by simp[gl] at h
 | x::C,y::s,h=>by
  rw[gl] at h;by_cases e:ew x y=0
  ·rw[if_pos e] at h;rw[aw x y e,Ih aw C s h]
  ·rw[if_neg e] at h;exact absurd h e
def Nd(a b:UInt8):Int:=pO a.toNat b.toNat
def Nf:∀(a b:List UInt8),tW a b=gl Nd a b
 | [],[]=>rfl
 | [],_::_=>rfl
 | _::_,[]=>rfl
 | a::C,b::s=>by
  rw[tW,gl,Nf C s];unfold Nd pO;have Y:(a<b)↔((a.toNat:Int)<b.toNat):=by rw[UInt8.lt_iff_toNat_lt];omega
  have am:(a > b)↔((a.toNat:Int) > b.toNat):=by show b<a↔_;rw[UInt8.lt_iff_toNat_lt];omega
  by_cases h1:a<b
  ·rw[if_pos h1,if_pos (Y.1 h1),if_neg r]
  ·have og:¬((a.toNat:Int)<b.toNat):=fun h=>h1 (Y.2 h);rw[if_neg h1,if_neg og];by_cases H:a > b
   ·rw[if_pos H,if_pos (am.1 H),if_neg r]
   ·have pI:¬((a.toNat:Int) > b.toNat):=fun h=>H (am.2 h);rw[if_neg H,if_neg pI,if_pos rfl]
def UE:Ord tW:=by
 have:tW=gl Nd:=by funext a b;exact Nf a b
 rw[this];exact Nc (wO If (fun a:UInt8=>(a.toNat:Int)))
def Ii{x y:Int}(h:pO x y=0):x=y:=by unfold pO at h;split at h<;>(try split at h)<;>omega
def UF{a b:List UInt8}(h:tW a b=0):a=b:=by rw[Nf] at h;exact Ih (fun x y e=>UInt8.toNat_inj.1 (by have:=Ii e;omega)) a b h
def ahM:Ord jo:=by
 have:jo=sR (fun a b:al=>pO a.kind b.kind) (sR (fun a b=>pO a.num b.num) (fun a b=>tW a.du b.du)):=by funext a b;unfold jo sR;rfl
 rw[this];exact Ig (wO If _) (Ig (wO If _) (wO UE _))
def ahN{a b:al}(h:jo a b=0):a=b:=by
 unfold jo at h;split at h
 ·rename_i h1;split at h
  ·rename_i H;obtain⟨k,n,w⟩:=a;obtain⟨jY,iG,w'⟩:=b;have Y:=Ii h1;have am:=Ii H;have bm:=UF h;simp only[] at Y am bm;rw[show k=jY by omega,am,bm]
  ·exact absurd h (by assumption)
 ·exact absurd h (by assumption)
abbrev fo:=e6×Int
def hf(x y:fo):Int:=sR (fun x y:fo=>tW x.1.data.toList y.1.data.toList) (fun x y=>pO x.2 y.2) x y
def vl:Ord hf:=Ig (wO UE (fun x:fo=>x.1.data.toList)) (wO If (fun x:fo=>x.2))
def Ng{x y:fo}(h:hf x y=0):x=y:=by
 unfold hf sR at h;split at h
 ·rename_i h1;obtain⟨⟨a⟩,n⟩:=x;obtain⟨⟨b⟩,m⟩:=y;have Y:=UF h1;have am:=Ii h;simp only[] at Y am;rw[am,Array.ext' Y]
 ·exact absurd h (by assumption)
abbrev h8:=List al×List fo
def pg(x y:h8):Int:=sR (fun x y:h8=>gl jo x.1 y.1) (fun x y=>gl hf x.2 y.2) x y
def UG:Ord pg:=Ig (wO (Nc ahM) (fun x:h8=>x.1)) (wO (Nc vl) (fun x:h8=>x.2))
def ahO{x y:h8}(h:pg x y=0):x=y:=by
 unfold pg sR at h;split at h
 ·rename_i h1;exact Prod.ext (Ih (fun _ _ e=>ahN e) _ _ h1) (Ih (fun _ _ e=>Ng e) _ _ h)
 ·exact absurd h (by assumption)
def Ak{α:Type}(ew:α->α->Int)(l:List α):Prop:=l.Pairwise fun x y=>¬ew y x<0
def kM{α:Type}(ew:α->α->Int)(l:List α):List α:=l.mergeSort fun x y=>decide (ew x y<=0)
def sS{α:Type}(ew:α->α->Int)(l:List α):(kM ew l).Perm l:=List.mergeSort_perm _ _
def UH{α:Type}{ew:α->α->Int}(h:Ord ew)(l:List α):Ak ew (kM ew l):=by
 have:=List.pairwise_mergeSort (le:=fun x y=>decide (ew x y<=0)) (fun a b c h1 H=>by
  simp only[decide_eq_true_eq] at *;exact h.trans a b c h1 H) (fun a b=>by
  simp only[Bool.or_eq_true,decide_eq_true_eq];have:=h.mX a b;omega) l
 refine this.imp ?_;intro a b pA;simp only[decide_eq_true_eq] at pA;have:=h.mX a b;omega
def ahP{α:Type}{ew:α->α->Int}(h:Ord ew)(aw:∀x y,ew x y=0->x=y){l m:List α}(aj:l.Perm m)(X:Ak ew l)(hm:Ak ew m):l=m:=by refine aj.eq_of_pairwise (le:=fun x y=>¬ew y x<0) (fun a b _ _ h1 H=>?_) X hm;have:=h.mX a b;exact aw a b r
def UI{α:Type}{ew:α->α->Int}(h:Ord ew)(aw:∀x y,ew x y=0->x=y){l m:List α}(aj:l.Perm m)(X:Ak ew l):l=kM ew m:=ahP h aw (aj.trans (sS ew m).symm) X (UH h m)
def UJ(aq:Nat)(h:aq<10):UInt8.ofNat aq.digitChar.toNat=UInt8.ofNat (48+aq):=by have:∀aq,aq<10->UInt8.ofNat (Nat.digitChar aq).toNat=UInt8.ofNat (48+aq):=K;exact this aq h
def Ij(h:n<10):kn n=[UInt8.ofNat (48+n)]:=by unfold kn;rw[Nat.toDigits_of_lt_base h,List.map_cons,List.map_nil,UJ n h]
def Nh(h:10<=n):kn n=kn (n/10)++[UInt8.ofNat (48+n%10)]:=by unfold kn;rw[Nat.toDigits_of_base_le K h,List.map_append,List.map_cons,List.map_nil,UJ _ (Nat.mod_lt _ K)]
def Ni:∀(k n:Nat),n<10 ^ k->(kn n).length<=k+1
 | 0,n,h=>by rw[Ij (by simp at h;omega)];exact ap
 | k+1,n,h=>by
  by_cases pe:n<10
  ·rw[Ij pe];show 1<=_;omega
  ·rw[Nh r,cu];have:=Ni k (n/10) (by rw[Nat.pow_succ] at h;omega);show _+1<=_;omega
def im(n:Int):e6:=a7 (if n<0 then 45::kn n.natAbs else kn n.natAbs)
def UK(n:Nat):im (n:Int)=a7 (kn n):=by unfold im;rw[if_neg r,Int.natAbs_natCast]
def Ik(n:Int)(h : -9223372036854775808<=n)(H:n<=9223372036854775807):(im n).size<=30:=by
 have:=Ni 20 n.natAbs r;have e:(im n).size=(if n<0 then 45::kn n.natAbs else kn n.natAbs).length:=by simp[im,a7,ByteArray.size]
 rw[e];split
 ·rw[di];omega
 ·omega
def anr(c:UInt8)(C last:List UInt8):Bool:=c==45&&yV last&&(match C with | []=>false | aq::_=>cI aq)
def ahp(c:UInt8)(C last:List UInt8):Option (Option (List UInt8)×Nat):=if c==32 then some (none,1) else if isLet c then
  (if jX (c::C.takeWhile isLet)||decide (1+(C.takeWhile isLet).length<=6) then some (some (c::C.takeWhile isLet),1+(C.takeWhile isLet).length) else none)
 else if cI c||anr c C last then
  (if sa (c::C.takeWhile cI) then some (some (c::C.takeWhile cI),1+(C.takeWhile cI).length) else none)
 else if c==39 then
  (if decide ((C.takeWhile gG).length<C.length)&&jf (C.takeWhile gG) then some (some (c::C.take ((C.takeWhile gG).length+1)),1+(C.takeWhile gG).length+1) else none)
 else if gw.contains c then some (some [c],1)
 else none
def J1:Nat->List UInt8->List UInt8->Option (List (List UInt8))
 | 0,_,_=>none
 | _+1,[],_=>some []
 | f+1,c::C,last=>match ahp c C last with
  | none=>none
  | some (none,n)=>J1 f ((c::C).drop n) last
  | some (some t,n)=>(J1 f ((c::C).drop n) t).map (t :: ·)
def axy(s:e6)(a e:Nat):sub s a e=(s.data.toList.drop a).take (e-a):=by rw[sub,ByteArray.data_extract,Array.toList_extract]
def av6(p:UInt8->Bool):∀C:List UInt8,C.take (C.takeWhile p).length=C.takeWhile p
 | []=>rfl
 | c::C=>by
  rw[List.takeWhile_cons];split
  ·rw[di,List.take_succ_cons,av6 p C]
  ·rfl
def ayH(last:List UInt8)(h:s.data.toList.drop k=c::C):kW s k last=(ahp c C last).map (fun x=>(x.1,k+x.2)):=by
 have hk:k<s.size:=by rw[<-s4];apply Classical.byContradiction;intro ar;rw[List.drop_eq_nil_of_le r] at h;cases h
 have aw:=A2 s k hk;rw[h] at aw;injection aw with Y am;have ai:s[k]! = c:=by rw[pu s k hk,<-Y]
 have b7:C.length=s.size-(k+1):=by rw[am,List.length_drop,s4]
 have sp:∀p,cR p s (k+1)=k+1+(C.takeWhile p).length:=fun p=>by rw[cR,<-am]
 have yn:∀n,sub s k (k+1+n)=c::C.take n:=fun n=>by rw[axy,h,show k+1+n-k=n+1 by omega,List.take_succ_cons]
 have ayI:∀n,sub s (k+1) (k+1+n)=C.take n:=fun n=>by rw[axy,<-am,show k+1+n-(k+1)=n by omega]
 have hm:pt s k last=anr c C last:=by
  unfold pt anr;rw[ai];cases C with
  | nil=>
   have:¬k+1<s.size:=by simp only[List.length_nil] at b7;omega
   rw[ax2 this];simp
  | cons aq lK=>
   have h1:k+1<s.size:=by simp only[di] at b7;omega
   have H:=A2 s (k+1) h1;rw[<-am] at H;injection H with bm _;rw[ax3 h1,pu s (k+1) h1,<-bm];simp
 unfold kW ahp;rw[ai,hm];simp only[sp];rw[yn,yn,av6,av6,ayI,av6];have q1:sub s k (k+1+(C.takeWhile gG).length+1)=c::C.take ((C.takeWhile gG).length+1):=by rw[show k+1+(C.takeWhile gG).length+1=k+1+((C.takeWhile gG).length+1) by omega,yn]
 have bN:sub s k (k+1)=[c]:=by have:=yn 0;rwa [Nat.add_zero,List.take_zero] at this
 have fR:decide (k+1+(C.takeWhile gG).length<s.size)=decide ((C.takeWhile gG).length<C.length):=by rw[decide_eq_decide];omega
 have iK:decide (k+1+(C.takeWhile isLet).length-k<=6)=decide (1+(C.takeWhile isLet).length<=6):=by rw[decide_eq_decide];omega
 rw[q1,bN,fR,iK];repeat' split
 all_goals first | rfl | (simp only[eQ,Option.some.injEq,Prod.mk.injEq,true_and];omega)
def awT{s:e6}:∀(f k:Nat) (last:List UInt8),k<=s.size->oR s f k last=J1 f (s.data.toList.drop k) last
 | 0,_,_,_=>rfl
 | f+1,k,last,hk=>by
  rw[oR];by_cases h:k<s.size
  ·rw[if_pos h];have aw:=A2 s k h;generalize s[k]=c at aw;have c4:=ayH last aw;rw[aw,J1];cases X:ahp c (s.data.toList.drop (k+1)) last with
   | none=>rw[c4,X];rfl
   | some x=>
    obtain⟨o,n⟩:=x;rw[X] at c4;have aD:=A3 h c4;rw[c4];have bb:(c::s.data.toList.drop (k+1)).drop n=s.data.toList.drop (k+n):=by rw[<-aw,List.drop_drop]
    cases o with
    | none=>show oR s f (k+n) last=J1 f _ last;rw[bb];exact awT f (k+n) last aD.2
    | some t=>show(oR s f (k+n) t).map _=(J1 f _ t).map _;rw[bb,awT f (k+n) t aD.2]
  ·rw[if_neg h,List.drop_eq_nil_of_le (by rw[s4];omega)];rfl
def ayJ(s:e6):ku s=J1 (s.size+1) s.data.toList []:=awT (s.size+1) 0 [] bu
def ai0(last t:List UInt8):Prop:=(∃c C,t=c::C/\isLet c=true/\C.all isLet=true/\(jX t||decide (t.length<=6))=true)\/(∃c C,t=c::C/\C.all cI=true/\sa t=true/\(cI c=true\/(c=45/\yV last=true/\C≠[])))\/(∃m,t=39::(m++[39])/\m.all gG=true/\jf m=true)\/(∃c,t=[c]/\gw.contains c=true)
def av7(p:UInt8->Bool):∀C:List UInt8,(C.takeWhile p).all p=true
 | []=>rfl
 | c::C=>by
  rw[List.takeWhile_cons];split
  ·rename_i h;rw[List.all_cons,h,av7 p C];rfl
  ·rfl
def axz:∀C:List UInt8,(C.takeWhile gG).length<C.length->C.take ((C.takeWhile gG).length+1)=C.takeWhile gG++[39]
 | [],h=>by simp at h
 | c::C,h=>by
  rw[List.takeWhile_cons] at h ⊢;split
  ·rename_i ai;rw[if_pos ai] at h;rw[di,List.take_succ_cons,axz C (by simpa using h)];rfl
  ·rename_i ai;have:c=39:=by simpa [gG] using ai
   rw[this];rfl
def ayK(ai:c=45)(h:sa (c::C)=true):C≠[]:=by rintro rfl;subst ai;exact absurd h K
def ayL(h:ahp c C last=some (some t,n)):ai0 last t:=by
 unfold ahp at h;repeat' split at h
 all_goals first | (cases h;done) | skip
 ·rename_i h1 H ab;simp only[Option.some.injEq,Prod.mk.injEq] at h;obtain⟨rfl,rfl⟩:=h;refine .inl ⟨_,_,rfl,H,av7 _ _,?_⟩;rw[di,Nat.add_comm];exact ab
 ·rename_i h1 H ab aK;simp only[Option.some.injEq,Prod.mk.injEq] at h;obtain⟨rfl,rfl⟩:=h;refine .inr (.inl ⟨_,_,rfl,av7 _ _,aK,?_⟩);rw[Bool.or_eq_true] at ab;rcases ab with ab | ab
  ·exact .inl ab
  ·unfold anr at ab;simp only[Bool.and_eq_true,beq_iff_eq] at ab;obtain⟨⟨ab,cO⟩,cE⟩:=ab;exact .inr ⟨ab,cO,ayK ab aK⟩
 ·rename_i h1 H ab aK cO;simp only[Option.some.injEq,Prod.mk.injEq] at h;obtain⟨rfl,rfl⟩:=h;simp only[Bool.and_eq_true,decide_eq_true_eq] at cO;have sw:c=39:=by simpa using aK
  subst sw;exact .inr (.inr (.inl ⟨_,by rw[axz C cO.1],av7 _ _,cO.2⟩))
 ·rename_i cO;simp only[Option.some.injEq,Prod.mk.injEq] at h;obtain⟨rfl,rfl⟩:=h;exact .inr (.inr (.inr ⟨c,rfl,cO⟩))
def akb:List UInt8->List (List UInt8)->Prop
 | _,[]=>True
 | last,t::C=>ai0 last t/\akb t C
def av9:∀(f:Nat) (b last:List UInt8) (l:List (List UInt8)),J1 f b last=some l->akb last l
 | 0,_,_,_,h=>by cases h
 | f+1,[],_,l,h=>by obtain rfl:=bx h;trivial
 | f+1,c::C,last,l,h=>by
  rw[J1] at h;cases hs:ahp c C last with
  | none=>rw[hs] at h;cases h
  | some x=>
   obtain⟨o,n⟩:=x;rw[hs] at h;cases o with
   | none=>exact av9 f _ _ _ h
   | some t=>simp only[Option.map_eq_some_iff] at h;obtain⟨lZ,me,rfl⟩:=h;exact⟨ayL hs,av9 f _ _ _ me⟩
def Stop(t C:List UInt8):Prop:=t=[40]\/t=[46]\/C=[]\/∃c lK,C=c::lK/\(c=32\/c=40\/c=41\/c=44\/c=46)
def awU(p:UInt8->Bool)(x C:List UInt8)(aa:x.all p=true)(ag:C=[]\/∃c lK,C=c::lK/\p c=false):(x++C).takeWhile p=x:=by
 induction x with
 | nil=>
  rcases ag with rfl | ⟨c,lK,rfl,h⟩
  ·rfl
  ·rw[List.nil_append,List.takeWhile_cons,h];rfl
 | cons a x aH=>rw[List.all_cons,Bool.and_eq_true] at aa;rw[List.cons_append,List.takeWhile_cons,aa.1,if_pos rfl,aH aa.2]
def axA(p:UInt8->Bool)(h:Stop t C)(h1:t≠[40])(H:t≠[46])(aj:p 32=false/\p 40=false/\p 41=false/\p 44=false/\p 46=false):C=[]\/∃c lK,C=c::lK/\p c=false:=by
 rcases h with h | h | h | ⟨c,lK,rfl,h⟩
 ·exact absurd h h1
 ·exact absurd h H
 ·exact .inl h
 ·refine .inr ⟨c,lK,rfl,?_⟩;rcases h with rfl | rfl | rfl | rfl | rfl
  ·exact aj.1
  ·exact aj.2.1
  ·exact aj.2.2.1
  ·exact aj.2.2.2.1
  ·exact aj.2.2.2.2
def ayM(h:cI c=true):(c==32)=false/\isLet c=false:=by simp only[cI,Bool.and_eq_true,decide_eq_true_eq] at h;refine⟨by rw[cV];rintro rfl;exact absurd h K,?_⟩;unfold isLet;rw[ax2 r];rfl
def ayN(h:isLet c=true):(c==32)=false:=by rw[cV];rintro rfl;exact absurd h K
def ayO(h:gw.contains c=true):(c==32)=false/\isLet c=false/\cI c=false/\(c==39)=false:=by simp only[gw,List.contains_cons,Bool.or_eq_true,beq_iff_eq,List.contains_nil,Bool.false_eq_true,or_false] at h;rcases h with rfl | rfl | rfl | rfl | rfl | rfl | rfl | rfl | rfl | rfl<;>decide
def ayP{m:List UInt8}(C:List UInt8)(h:m.all gG=true):(m++39::C).takeWhile gG=m:=awU _ _ _ h (.inr ⟨_,_,rfl,K⟩)
def ayQ(h:ai0 last t)(hs:Stop t C):∃c x,t=c::x/\ahp c (x++C) last=some (some t,t.length):=by
 rcases h with⟨c,x,rfl,h1,H,ab⟩ | ⟨c,x,rfl,h1,H,ab⟩ | ⟨m,rfl,h1,H⟩ | ⟨c,rfl,h1⟩
 ·refine⟨c,x,rfl,?_⟩;have hw:=awU isLet x C H (axA isLet hs (by rintro e;injection e with e _;subst e;exact absurd h1 K) (by rintro e;injection e with e _;subst e;exact absurd h1 K) K);unfold ahp;rw[ayN h1,h1,hw];rw[di,Nat.add_comm] at ab;simp only[Bool.false_eq_true,if_false,if_true];rw[if_pos ab,di,Nat.add_comm]
 ·refine⟨c,x,rfl,?_⟩;have bb:(c==32)=false/\isLet c=false:=by
   rcases ab with ab | ⟨rfl,-,-⟩
   ·exact ayM ab
   ·decide
  have cy:c≠40/\c≠46:=by
   rcases ab with ab | ⟨rfl,-,-⟩
   ·refine⟨?_,?_⟩<;>(rintro rfl;exact absurd ab K)
   ·decide
  have hw:=awU cI x C h1 (axA cI hs (by rintro e;injection e with e _;exact cy.1 e) (by rintro e;injection e with e _;exact cy.2 e) K);have ayR:(cI c||anr c (x++C) last)=true:=by
   rcases ab with ab | ⟨rfl,aK,cO⟩
   ·rw[ab];rfl
   ·obtain⟨aq,j1,rfl⟩:=List.exists_cons_of_ne_nil cO;rw[List.all_cons,Bool.and_eq_true] at h1;unfold anr;rw[aK,List.cons_append];simp[h1.1]
  unfold ahp;rw[bb.1,bb.2,ayR,hw,H];simp only[Bool.false_eq_true,if_false,if_true];rw[di,Nat.add_comm]
 ·refine⟨39,m++[39],rfl,?_⟩;have hw:=ayP C h1;rw[List.append_assoc];unfold ahp;rw[show [39]++C=(39::C:List UInt8) from rfl,hw];have hm:anr 39 (m++39::C) last=false:=rfl;rw[hm,H,show((39:UInt8)==32)=false from rfl,show isLet 39=false from rfl,show cI 39=false from rfl];have X:decide (m.length<(m++39::C).length)=true:=by rw[decide_eq_true_eq,cu,di];omega
  rw[X];simp only[Bool.false_eq_true,if_false,Bool.or_self,beq_self_eq_true,Bool.and_self,if_true];have:(m++39::C).take (m.length+1)=m++[39]:=by rw[show m++39::C=(m++[39])++C by simp,show m.length+1=(m++[39]).length by simp,List.take_left]
  rw[this];simp only[Option.some.injEq,Prod.mk.injEq,true_and,di,cu,List.length_nil];omega
 ·refine⟨c,[],rfl,?_⟩;obtain⟨s1,s2,dd,qQ⟩:=ayO h1;have hm:anr c ([]++C) last=false:=by
   unfold anr;rcases hs with hs | hs | rfl | ⟨aq,lK,rfl,bb⟩
   ·injection hs with hs _;subst hs;rfl
   ·injection hs with hs _;subst hs;rfl
   ·simp
   ·have:cI aq=false:=by rcases bb with rfl | rfl | rfl | rfl | rfl<;>decide
    simp[this]
  unfold ahp;rw[s1,s2,dd,qQ,hm,h1];rfl
def jr:Nat->List (List UInt8)->List UInt8
 | _,[]=>[]
 | PI,t::C=>(if ap9 PI (dn t) then [32] else [])++(t++jr (dn t) C)
def aq9(h:dn t=k)(aK:4<=k)(hk:k<33):t=qm k:=(PZ t k aK hk).1 h
def ayS(h:ai0 last t):dn t≠0:=by
 unfold dn;split
 ·omega
 rename_i pw;split
 ·omega
 rename_i sj;split
 ·decide
 rename_i ae;split
 ·decide
 rename_i ou;split
 ·decide
 rename_i b8;exfalso;rcases h with⟨c,x,rfl,h1,H,ab⟩ | ⟨c,x,rfl,h1,H,ab⟩ | ⟨m,rfl,h1,H⟩ | ⟨c,rfl,h1⟩
 ·apply ou;have hk:jX (c::x)=false:=by simpa using pw
  unfold iP yU;rw[hk] at ab ⊢;rw[List.all_cons,h1,H];simpa using ab
 ·exact b8 H
 ·exact ae rfl
 ·exact sj ⟨rfl,h1⟩
def ayT(au:ai0 last t):∀C:List (List UInt8),Stop t (jr (dn t) C)
 | []=>.inr (.inr (.inl rfl))
 | ne::C=>by
  rw[jr];by_cases hs:ap9 (dn t) (dn ne)=true
  ·rw[if_pos hs];exact .inr (.inr (.inr ⟨32,_,rfl,.inl rfl⟩))
  ·rw[if_neg hs,List.nil_append];unfold ap9 at hs;have aw:=ayS au;by_cases hq:dn t=4
   ·exact .inl (aq9 hq K K)
   by_cases wj:dn t=7
   ·exact .inr (.inl (aq9 wj K K))
   refine .inr (.inr (.inr ?_));rw[if_neg r] at hs;split at hs
   ·have e:dn ne=4:=by simpa using hs
    rw[aq9 e K K];exact⟨40,_,rfl,by simp⟩
   ·by_cases ol:dn ne=5
    ·rw[aq9 ol K K];exact⟨41,_,rfl,by simp⟩
    by_cases s8:dn ne=6
    ·rw[aq9 s8 K K];exact⟨44,_,rfl,by simp⟩
    by_cases sg:dn ne=7
    ·rw[aq9 sg K K];exact⟨46,_,rfl,by simp⟩
    exact absurd (by simp[ol,s8,sg]) hs
def ayU(h:ai0 last t)(hs:Stop t C):J1 (f+1) (t++C) last=(J1 f C t).map (t :: ·):=by obtain⟨c,x,rfl,h1⟩:=ayQ h hs;rw[List.cons_append,J1,h1];show(J1 f ((c::(x++C)).drop (c::x).length) (c::x)).map _=_;rw[<-List.cons_append,List.drop_left]
def ayV(h:ai0 last t):0<t.length:=by rcases h with⟨c,x,rfl,-⟩ | ⟨c,x,rfl,-⟩ | ⟨m,rfl,-⟩ | ⟨c,rfl,-⟩<;>simp
def axB:∀(l:List (List UInt8)) (last:List UInt8) (f:Nat) (PI:Nat),akb last l->(jr PI l).length<f->J1 f (jr PI l) last=some l
 | [],last,f,PI,_,av=>by obtain⟨g,rfl⟩:∃g,f=g+1:=⟨f-1,r⟩;rfl
 | t::C,last,f,PI,ai,av=>by
  have aj:=ayV ai.1;rw[jr] at av ⊢;have tail:∀g,(t++jr (dn t) C).length<g->J1 g (t++jr (dn t) C) last=some (t::C):=fun g R=>by obtain⟨dM,rfl⟩:∃dM,g=dM+1:=⟨g-1,r⟩;rw[ayU ai.1 (ayT ai.1 C),axB C t dM (dn t) ai.2 (by rw[cu] at R;omega)];rfl
  split at av
  ·rename_i hs;rw[if_pos hs];obtain⟨g,rfl⟩:∃g,f=g+1:=⟨f-1,r⟩;rw[show [32]++(t++jr (dn t) C)=32::(t++jr (dn t) C) from rfl,J1];show J1 g _ last=_;exact tail g (by simp only[cu,di,List.length_nil] at av ⊢;omega)
  ·rename_i hs;rw[if_neg hs];exact tail f av
def nI:Nat->List (List UInt8)->Nat
 | k,[]=>k
 | _,t::C=>nI (dn t) C
def axD:List UInt8->List (List UInt8)->List UInt8
 | l,[]=>l
 | _,t::C=>axD t C
def awa:∀(aB bB:List (List UInt8)) (PI:Nat),jr PI (aB++bB)=jr PI aB++jr (nI PI aB) bB
 | [],_,_=>rfl
 | t::C,bB,PI=>by rw[List.cons_append,jr,jr,awa C bB,nI];simp only[List.append_assoc]
def awj:∀(aB bB:List (List UInt8)) (l:List UInt8),akb l aB->akb (axD l aB) bB->akb l (aB++bB)
 | [],_,_,_,h=>h
 | t::C,bB,_,h1,H=>⟨h1.1,awj C bB t h1.2 H⟩
def awV:∀(aB bB:List (List UInt8)) (k:Nat),nI k (aB++bB)=nI (nI k aB) bB
 | [],_,_=>rfl
 | _::C,bB,_=>by rw[List.cons_append,nI,nI,awV C bB]
def yc(T:List (List UInt8)):e4:=T.map a7
def ayW(x:List UInt8):dD (a7 x)=dn x:=rfl
def awW(x:List UInt8)(T:List (List UInt8))(C:e4):hk (yc (x::T)++C)=dn x:=rfl
def ayX(T:List (List UInt8))(C:e4):(yc T++C).map dD=T.map dn++C.map dD:=by unfold yc;rw[List.map_append,List.map_map];rfl
def awX(aB bB:List (List UInt8))(C:e4):yc (aB++bB)++C=yc aB++(yc bB++C):=by unfold yc;rw[List.map_append,List.append_assoc]
structure AW (F:Nat) (T:List (List UInt8)) (t:aL):Prop where
 head:∃x C,T=x::C/\(dn x=1\/dn x=4\/dn x=22\/dn x=25)
 last:∀k,(nI k T=1\/nI k T=2\/nI k T=3\/nI k T=5\/nI k T=24)
 chain:∀l,akb l T
 parse:∀f C,F<=f->bP f 1 (yc T++C)=some (C,t)
 awn:∀(o:Int) j C,1<=o->j=20\/j=21->oS o (T.map dn++j::C)=true
def VL:List UInt8:=[110,111,116]
def aqb:List UInt8:=[97,110,100]
def VN:List UInt8:=[111,114]
def awY(l:List UInt8)(c:UInt8)(h:gw.contains c=true):ai0 l [c]:=.inr (.inr (.inr ⟨c,rfl,h⟩))
def awZ{l:List UInt8}(h:(isLet c&&C.all isLet&&(jX (c::C)||decide ((c::C).length<=6)))=true):ai0 l (c::C):=by simp only[Bool.and_eq_true] at h;exact .inl ⟨c,C,rfl,h.1.1,h.1.2,h.2⟩
def AW.not{t:aL}(h:AW F T t):AW (F+1) (VL::T) (iQ 14 (.cons t .nil)):=by
 refine⟨⟨VL,T,rfl,.inr (.inr (.inl K))⟩,fun k=>h.last _,fun l=>⟨awZ K,h.chain _⟩,fun f C av=>?_,fun o j C ct aS=>?_⟩
 ·obtain⟨g,rfl⟩:∃g,f=g+1:=⟨f-1,r⟩;rw[bP,awW,if_pos K];show(bP g 1 (yc T++C)).bind _=_;rw[h.parse g C r];rfl
 ·rw[List.map_cons,List.cons_append,oS];have e:dn VL=22:=K;rw[e,if_neg K];simp only[show ¬(22:Nat)=4 by decide,show ¬(22:Nat)=5 by decide,if_false];rw[if_neg r];exact h.awn o j C ct aS
def AW.two{c0:List (List UInt8)}{s t:aL}{j:List UInt8}(hs:AW F c0 s)(au:AW F T t)(aS:(j=aqb/\k=12)\/(j=VN/\k=13)):AW (F+1) ([40]::(c0++j::(T++[[41]]))) (iQ k (.cons s (.cons t .nil))):=by
 have axE:(dn j=20/\k=12)\/(dn j=21/\k=13):=by
  rcases aS with⟨rfl,rfl⟩ | ⟨rfl,rfl⟩
  ·exact .inl ⟨K,rfl⟩
  ·exact .inr ⟨K,rfl⟩
 have kv:dn j=20\/dn j=21:=axE.imp (·.1) (·.1);have ayY:∀l,ai0 l j:=fun l=>by rcases aS with⟨rfl,rfl⟩ | ⟨rfl,rfl⟩<;>exact awZ K
 have dt:dn [40]=4:=K;have e8:dn [41]=5:=K;refine⟨⟨_,_,rfl,.inr (.inl dt)⟩,fun k=>?_,fun l=>⟨awY _ _ K,awj _ _ _ (hs.chain _) ⟨ayY _,awj _ _ _ (au.chain _) ⟨awY _ _ K,trivial⟩⟩⟩,fun f C av=>?_,fun o uf C ct lv=>?_⟩
 ·right;right;right;left;rw[nI,awV,nI,awV,nI,nI];exact e8
 ·obtain⟨g,rfl⟩:∃g,f=g+1:=⟨f-1,r⟩;have rm:hk (yc ([40]::(c0++j::(T++[[41]])))++C)=4:=by rw[awW];exact dt
  have NJ:oS 0 ((yc ([40]::(c0++j::(T++[[41]])))++C).map dD)=true:=by rw[ayX,List.map_cons,dt,List.map_append,List.map_cons,List.cons_append,List.append_assoc,List.cons_append,oS,if_neg K];simp only[if_true];rw[if_neg K];exact hs.awn _ _ _ K kv
  rw[bP,rm,if_neg K,if_neg K,if_pos ⟨rfl,NJ⟩]
  ·have Y:(yc ([40]::(c0++j::(T++[[41]])))++C).tail=yc c0++(yc (j::T)++(yc [[41]]++C)):=by show yc (c0++j::(T++[[41]]))++C=_;rw[show c0++j::(T++[[41]])=c0++((j::T)++[[41]]) from rfl,awX,awX]
   rw[Y,hs.parse g _ r];show(if hk (yc (j::T)++_)=20\/hk (yc (j::T)++_)=21 then _ else none)=_;rw[awW,if_pos kv];show(bP g 1 (yc T++(yc [[41]]++C))).bind _=_;rw[au.parse g _ r];have am:dq 5 (yc [[41]]++C)=some (a7 [41],C):=by show(if dD (a7 [41])=5 then some (a7 [41],C) else none)=_;rw[ayW,if_pos e8]
   rw[b2,am];rcases axE with⟨a,rfl⟩ | ⟨a,rfl⟩<;>rw[a]<;>rfl
 ·rw[List.map_cons,dt,List.map_append,List.map_cons,List.cons_append,List.append_assoc,List.cons_append,oS,if_neg K];simp only[if_true];rw[if_neg r];exact hs.awn _ _ _ r kv
def ayZ(a b:Int):jo (iX a) (iX b)=pO a b:=by
 unfold jo iX;dsimp only;rw[if_pos (by rfl)];split
 ·rename_i h;rw[h];rfl
 ·rfl
def oc(P:Nat×List al->Prop)(st:az):Prop:=(∀C∈st.ad,P C)/\∀c∈st.bF,∀C∈c,P C
def oc.take{P:Nat×List al->Prop}{st:az}(h:oc P st)(n:Nat):oc P {st with ad:=st.ad.take n}:=⟨fun C ag=>h.1 C (List.mem_of_mem_take ag),h.2⟩
def oc.lay(h:oc P st)(n:Nat){c:je}(ai:∀C∈c,P C):oc P {st with ad:=st.ad.take n++c}:=⟨fun C ag=>by
 rcases ax5 ag with ag | ag
 ·exact h.1 C (List.mem_of_mem_take ag)
 ·exact ai C ag,h.2⟩
def oc.app(h:oc P st){c:je}(ai:∀C∈c,P C):oc P {st with ad:=st.ad++c}:=⟨fun C ag=>by
 rcases ax5 ag with ag | ag
 ·exact h.1 C ag
 ·exact ai C ag,h.2⟩
def oc.uP(h:oc P st)(n:Int):oc P (iY n st).2:=by unfold iY;split<;>exact h
def oc.times(h:oc P st)(a b:Int):oc P (oy a b st).2:=by unfold oy;split<;>exact h
def oc.agg(h:oc P st)(k:Nat)(vs:List al):oc P (tX k vs st).2:=by
 unfold tX;split
 ·exact h
 ·split
  ·exact h
  ·split
   ·exact h.uP _
   ·split<;>exact h
def aqx{P:Nat×List al->Prop}{f:az->al×az}(av:∀st,oc P st->oc P (f st).2):∀(l:List (je)) (st:az),oc P st->(∀c∈l,∀C∈c,P C)->oc P (iw f l st).2
 | [],st,h,_=>h
 | c::C,st,h,X=>by rw[iw];exact aqx av C _ (av _ (h.lay _ (X c ax6))) (fun e7 k4=>X e7 (List.mem_cons_of_mem _ k4))
def Yt{P:Nat×List al->Prop}(I:List eO)(O:Int):∀(t:aL) (st:az),oc P st->oc P (ca I O t st).2
 | .node k s n v .nil U,st,h=>by
  rw[ca];split
  ·exact h
  ·split
   ·exact h
   ·split<;>exact h
 | .node k s n v (.cons a .nil) U,st,h=>by rw[ca];exact(aqx (Yt I O a) st.bF st h h.2).agg k _
 | .node k s n v (.cons a (.cons b C)) U,st,h=>by
  have h1:=Yt I O a st h;have H:=Yt I O b _ h1;rw[ca];split
  ·exact H
  ·split
   ·exact H.uP _
   ·split
    ·exact H.uP _
    ·exact H.times _ _
 | .node k s n v (.cons a (.node ..)) U,st,h=>h
 | .node k s n v (.cons a (.query ..)) U,st,h=>h
 | .node k s n v (.node ..) U,st,h=>h
 | .node k s n v (.query ..) U,st,h=>h
 | .nil,st,h=>h
 | .cons _ _,st,h=>h
 | .query ..,st,h=>h
def apM{P:Nat×List al->Prop}(I:List eO)(O:Int):∀(t:aL) (st:az),oc P st->oc P (hL I O t st).2
 | .cons a C,st,h=>by rw[hL];exact apM I O C _ (Yt I O a st h)
 | .nil,st,h=>h
 | .node ..,st,h=>h
 | .query ..,st,h=>h
def CZ(P:Nat×List al->Prop)(aP:List (je)):Prop:=∀c∈aP,∀C∈c,P C
def aqy{P:Nat×List al->Prop}{g:az->List (je)->az×List (je)}(R:∀st aP,oc P st->CZ P aP->oc P (g st aP).1/\CZ P (g st aP).2):∀(l:je) (st:az) (aP:List (je)),(∀C∈l,P C)->oc P st->CZ P aP->oc P (oz g l st aP).1/\CZ P (oz g l st aP).2
 | [],st,aP,_,h,ak=>⟨h,ak⟩
 | C::l,st,aP,X,h,ak=>by rw[oz];obtain⟨h1,H⟩:=R {st with ad:=st.ad++[C]} aP (h.app (fun x aa=>by obtain rfl:=ic aa;exact X _ ax6)) ak;exact aqy R l _ _ (fun x aa=>X x (List.mem_cons_of_mem _ aa)) (h1.take _) H
def aqz{P:Nat×List al->Prop}{B:List bG}(bi:∀s,∀C∈gC B s,P C){act:az->List (je)->az×List (je)}(R:∀st aP,oc P st->CZ P aP->oc P (act st aP).1/\CZ P (act st aP).2):∀(l:lh) (st:az) (aP:List (je)),oc P st->CZ P aP->oc P (hB B act l st aP).1/\CZ P (hB B act l st aP).2
 | [],st,aP,h,ak=>by
  rw[hB];split
  ·exact⟨h,ak⟩
  ·exact R st aP h ak
 | s::C,st,aP,h,ak=>by
  rw[hB];split
  ·exact⟨h,ak⟩
  ·exact aqy (aqz bi R C) _ st aP (bi s) h ak
def at2(bi:∀s,∀C∈gC B s,P C)(hk:∀st,oc P st->oc P (a8 st).2)(V:lh)(st:az)(h:oc P st):oc P (iJ B V a8 st).1/\CZ P (iJ B V a8 st).2:=by
 unfold iJ;split
 ·exact⟨h,fun c ai=>absurd ai (ax4)⟩
 ·refine aqz bi (fun s aP hs ak=>⟨hk s hs,?_⟩) V _ [] h (fun c ai=>absurd ai (ax4));show CZ P (if (a8 s).1=true then _ else _);split
  ·intro c ai;rcases ax5 ai with ai | ai
   ·exact ak c ai
   ·obtain rfl:=ic ai;exact fun C ag=>(hk s hs).1 C (List.mem_of_mem_drop ag)
  ·exact ak
def YI(P:Nat×List al->Prop)(gs:List (List (je))):Prop:=∀g∈gs,CZ P g
def at3{ks:List (List UInt8)}(h:YI P gs)(key:List UInt8){c:je}(ai:∀C∈c,P C):YI P (qE ks gs key c).2:=by
 unfold qE;split
 ·rename_i i _;intro g R;rcases List.mem_or_eq_of_mem_set R with R | rfl
  ·exact h g R
  ·intro e7 k4;rcases ax5 k4 with k4 | k4
   ·rw[List.getD_eq_getElem?_getD] at k4;cases aa:gs[i]? with
    | none=>rw[aa] at k4;cases k4
    | some y=>rw[aa] at k4;exact h y (List.mem_of_getElem? aa) e7 k4
   ·obtain rfl:=ic k4;exact ai
 ·intro g R;rcases ax5 R with R | R
  ·exact h g R
  ·obtain rfl:=ic R;intro e7 k4;obtain rfl:=ic k4;exact ai
def aqA{P:Nat×List al->Prop}{f:az->List al×az}(av:∀st,oc P st->oc P (f st).2):∀(l:List (je)) (ks:List (List UInt8)) (gs:List (List (je))) (st:az),CZ P l->YI P gs->oc P st->YI P (qF f l ks gs st).1/\oc P (qF f l ks gs st).2
 | [],_,gs,st,_,R,h=>⟨R,h⟩
 | c::C,ks,gs,st,X,R,h=>by rw[qF];exact aqA av C _ _ _ (fun e7 k4=>X e7 (List.mem_cons_of_mem _ k4)) (at3 R _ (X c ax6)) ((av _ (h.app (X c ax6))).take _)
def at4(e g h:aL){f:az->List al×az}(av:∀st,oc P st->oc P (f st).2)(x:az×List (je))(h1:oc P x.1)(H:CZ P x.2):YI P (mR e g h f x).1/\oc P (mR e g h f x).2:=by
 unfold mR;split
 ·split
  ·exact⟨fun g R=>by obtain rfl:=ic R;exact H,h1⟩
  ·exact aqA av x.2 [] [] x.1 H (fun g R=>absurd R (ax4)) h1
 ·refine⟨fun g R=>?_,h1⟩;obtain⟨c,ai,rfl⟩:=List.mem_map.1 R;intro e7 k4;obtain rfl:=ic k4;exact H _ ai
def api(P:Nat×List al->Prop)(l:List (List al×List (je))):Prop:=∀x∈l,CZ P x.2
def at5(h:CZ P aG):∀C∈aG.headD [],P C:=by
 cases aG with
 | nil=>intro C ag;cases ag
 | cons a l=>exact h a ax6
def at6(hk:∀st,oc P st->oc P (a8 st).2)(hv:∀st,oc P st->oc P (ba st).2)(aG:List (je))(st:az)(R:CZ P aG)(h:oc P st):api P (mp a8 ba aG st).1/\oc P (mp a8 ba aG st).2:=by
 have aw:oc P {st with bF:=aG,ad:=st.ad++aG.headD []}:=⟨fun C ag=>by
  rcases ax5 ag with ag | ag
  ·exact h.1 C ag
  ·exact at5 R C ag,R⟩
 have h1:=hk _ aw;unfold mp;simp only[];split
 ·exact⟨fun x aa=>by obtain rfl:=ic aa;exact R,(hv _ h1).take _⟩
 ·exact⟨fun x aa=>absurd aa (ax4),h1.take _⟩
def aqB{P:Nat×List al->Prop}{a8:az->Bool×az}{ba:az->List al×az}(hk:∀st,oc P st->oc P (a8 st).2)(hv:∀st,oc P st->oc P (ba st).2):∀(gs:List (List (je))) (aP:List (List al×List (je))) (st:az),YI P gs->api P aP->oc P st->api P (k8 a8 ba gs aP st).1/\oc P (k8 a8 ba gs aP st).2
 | [],aP,st,_,ak,h=>⟨ak,h⟩
 | g::C,aP,st,R,ak,h=>by
  rw[k8];split
  ·exact⟨fun x aa=>absurd aa (ax4),h⟩
  ·obtain⟨h1,H⟩:=at6 hk hv g st (R g ax6) h;refine aqB hk hv C _ _ (fun dM mw=>R dM (List.mem_cons_of_mem _ mw)) (fun x aa=>?_) H;rcases ax5 aa with aa | aa
   ·exact ak x aa
   ·exact h1 x aa
def aqC{f:az->Int×List (List al×List (je))×az}(av:∀st,oc P st->oc P (f st).2.2)(t:aL)(st:az)(h:oc P st):oc P (iZ f t st).2:=by
 unfold iZ;split
 ·exact h
 ·exact av st h
def UQ{P:Nat×List al->Prop}{B:List bG}(bi:∀s,∀C∈gC B s,P C)(O:Int):∀(t:aL) (I:List eO) (st:az),oc P st->api P (bR B O t I st).2.1/\oc P (bR B O t I st).2.2
 | .node k s n v .nil U,I,st,h=>by
  rw[bR];split
  ·exact⟨fun x aa=>absurd aa (ax4),(UQ bi O U I st h).2⟩
  ·exact⟨fun x aa=>absurd aa (ax4),h⟩
 | .node k s n v (.cons a .nil) U,I,st,h=>by
  rw[bR];split
  ·exact⟨fun x aa=>absurd aa (ax4),(UQ bi O a I st h).2⟩
  ·exact⟨fun x aa=>absurd aa (ax4),Yt I O a st h⟩
 | .node k s n v (.cons a (.cons b C)) U,I,st,h=>by
  have h1:=(UQ bi O a I st h).2;have H:=(UQ bi O b I _ h1).2;have ab:=Yt I O b _ (Yt (P:=P) I O a st h);rw[bR];split
  ·exact⟨fun x aa=>absurd aa (ax4),H⟩
  ·split
   ·exact⟨fun x aa=>absurd aa (ax4),H⟩
   ·exact⟨fun x aa=>absurd aa (ax4),ab⟩
 | .query e V wh g hv,I,st,h=>by rw[bR];simp only[];obtain⟨aI,aZ⟩:=at2 bi (fun s hs=>aqC (fun fu Cc=>(UQ bi O wh (I++ea B V) fu Cc).2) wh s hs) V st h;obtain⟨g1,g2⟩:=at4 e g hv (fun s hs=>apM (I++ea B V) O g s hs) _ aI aZ;exact aqB (fun s hs=>aqC (fun fu Cc=>(UQ bi O hv (I++ea B V) fu Cc).2) hv s hs) (fun s hs=>apM (I++ea B V) O e s hs) _ [] _ g1 (fun x aa=>absurd aa (ax4)) g2
 | .node k s n v (.cons a (.node ..)) U,I,st,h=>⟨fun x aa=>absurd aa (ax4),h⟩
 | .node k s n v (.cons a (.query ..)) U,I,st,h=>⟨fun x aa=>absurd aa (ax4),h⟩
 | .node k s n v (.node ..) U,I,st,h=>⟨fun x aa=>absurd aa (ax4),h⟩
 | .node k s n v (.query ..) U,I,st,h=>⟨fun x aa=>absurd aa (ax4),h⟩
 | .nil,I,st,h=>⟨fun x aa=>absurd aa (ax4),h⟩
 | .cons _ _,I,st,h=>⟨fun x aa=>absurd aa (ax4),h⟩
end bS
