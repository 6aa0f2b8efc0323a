import Derived.Test.YtjebdgbpopolkaaGreatDoorM00
import Derived.Test.YtjebdgbpopolkaaGreatDoorM001
set_option maxHeartbeats 0
set_option maxRecDepth 100000
set_option linter.all false
namespace bS
variable{x:List UInt8}
def okB:Nat->List Nat->Bool
 | aq,[]=>aq==0
 | aq,k::C=>!(k==20)&&!(k==21)&&(if k=4 then okB (aq+1) C else if k=5 then !(aq==0)&&okB (aq-1) C else okB aq C)
def awv:∀(ks:List Nat) (aq:Nat) (o:Int) (C:List Nat),okB aq ks=true->1<=o->oS (o+(aq:Int)) (ks++C)=oS o C
 | [],aq,o,C,h,_=>by
  have:aq=0:=by simpa [okB] using h
  subst this;simp
 | k::ks,aq,o,C,h,ct=>by
  rw[okB] at h;simp only[Bool.and_eq_true,Bool.not_eq_true',cV] at h;obtain⟨⟨h1,H⟩,ab⟩:=h;rw[List.cons_append,oS,if_neg r];by_cases aK:k=4
  ·rw[if_pos aK] at ab;simp only[if_pos aK];rw[if_neg r];have:=awv ks (aq+1) o C ab ct;rw[<-this];congr 1;omega
  ·rw[if_neg aK] at ab;simp only[if_neg aK];by_cases cO:k=5
   ·rw[if_pos cO,Bool.and_eq_true] at ab;simp only[if_pos cO];have bb:aq≠0:=by simpa using ab.1
    rw[if_neg r];have:=awv ks (aq-1) o C ab.2 ct;rw[<-this];congr 1;omega
   ·rw[if_neg cO] at ab;simp only[if_neg cO];rw[if_neg r];exact awv ks aq o C ab ct
def azb{C:List (List UInt8)}(h:akb [] (x::C))(aa:∀l,ai0 l x)(l:List UInt8):akb l (x::C):=⟨aa l,h.2⟩
def AW.leaf{F:Nat}{T:List (List UInt8)}{t:aL}(h1:(dn x==1||dn x==4||dn x==25)=true)(H:(nI 0 (x::T)==2||nI 0 (x::T)==1||nI 0 (x::T)==3||nI 0 (x::T)==5||nI 0 (x::T)==24)=true)(ab:J1 100 (jr 4 (x::T)) []=some (x::T))(aK:∀g C,bP (g+F) 1 (yc (x::T)++C)=some (C,t))(cO:okB 0 ((x::T).map dn)=true)(cE:(match x with | []=>false | c::C=>gw.contains c&&C.isEmpty||isLet c&&C.all isLet&&(jX (c::C)||decide ((c::C).length<=6)))=true):AW F (x::T) t:=by
 refine⟨⟨x,T,rfl,?_⟩,fun k=>?_,azb (av9 _ _ _ _ ab) (fun l=>?_),fun f C av=>?_,fun o j C ct aS=>?_⟩
 ·simp only[Bool.or_eq_true,beq_iff_eq] at h1;omega
 ·have e:nI k (x::T)=nI 0 (x::T):=rfl;rw[e];simp only[Bool.or_eq_true,beq_iff_eq] at H;omega
 ·cases x with
  | nil=>cases cE
  | cons c C=>
   simp only[Bool.or_eq_true] at cE;rcases cE with h | h
   ·rw[Bool.and_eq_true] at h;have:C=[]:=by simpa using h.2
    subst this;exact awY _ _ h.1
   ·exact awZ h
 ·obtain⟨g,rfl⟩:∃g,f=g+F:=⟨f-F,r⟩;exact aK g C
 ·have:=awv _ 0 o (j::C) cO ct;rw[show o+((0:Nat):Int)=o by simp] at this;rw[this,oS,if_pos aS]
def adx(n:List UInt8):aL:=.node 1 ⟨#[97]⟩ (a7 n) al.zero .nil .nil
def aq4(n:Int):aL:=.node 2 ⟨#[]⟩ ⟨#[]⟩ ⟨1,n,[]⟩ .nil .nil
def aww(w:List UInt8):aL:=.node 2 ⟨#[]⟩ ⟨#[]⟩ ⟨2,0,w⟩ .nil .nil
def aw6:List (List UInt8):=[[97],[46],[120],[105,115],[110,117,108,108]]
def axK:AW 3 aw6 (iQ 19 (.cons (adx [120]) .nil)):=show AW _ (_::_) _ from .leaf K K ax (fun g C=>ax) K K
def akc(k:Nat):List (List UInt8):=[[97],[46],[120],[62],(im ((k:Int)-3)).data.toList]
def axL:∀k,k<9->AW 3 (akc k) (iQ 18 (.cons (adx [120]) (.cons (aq4 ((k:Int)-3)) .nil))):=by intro k hk;rcases(by omega:k=0\/k=1\/k=2\/k=3\/k=4\/k=5\/k=6\/k=7\/k=8) with rfl | rfl | rfl | rfl | rfl | rfl | rfl | rfl | rfl<;>exact show AW _ (_::_) _ from .leaf K (by decide +kernel) ax (fun g C=>ax) (by decide +kernel) K
def apt:List (List UInt8):=[[97],[46],[121],[61],[39,97,98,39]]
def axM:AW 3 apt (iQ 16 (.cons (adx [121]) (.cons (aww [97,98]) .nil))):=show AW _ (_::_) _ from .leaf K K ax (fun g C=>ax) K K
def apy:List (List UInt8):=[[97],[46],[121],[60],[39,98,39]]
def axN:AW 3 apy (iQ 17 (.cons (adx [121]) (.cons (aww [98]) .nil))):=show AW _ (_::_) _ from .leaf K K ax (fun g C=>ax) K K
def ajX(m:Nat):List (List UInt8):=[[40],[97],[46],[120],[43],(im (m:Int)).data.toList,[41],[61],[50]]
def axO:∀m,m<5->AW 3 (ajX m) (iQ 16 (.cons (iQ 4 (.cons (adx [120]) (.cons (aq4 (m:Int)) .nil))) (.cons (aq4 2) .nil))):=by intro m hm;rcases(by omega:m=0\/m=1\/m=2\/m=3\/m=4) with rfl | rfl | rfl | rfl | rfl<;>exact show AW _ (_::_) _ from .leaf K (by decide +kernel) ax (fun g C=>ax) (by decide +kernel) K
def apJ:List (List UInt8):=[[101,120,105,115,116,115],[40],[115,101,108,101,99,116],[98],[46],[120],[102,114,111,109],[116],[98],[119,104,101,114,101],[98],[46],[120],[60],[97],[46],[120],[41]]
def axb:aL:=.query (.cons (.node 1 ⟨#[98]⟩ ⟨#[120]⟩ al.zero .nil .nil) .nil) [(⟨#[116]⟩,⟨#[98]⟩)] (iQ 17 (.cons (.node 1 ⟨#[98]⟩ ⟨#[120]⟩ al.zero .nil .nil) (.cons (adx [120]) .nil))) .nil .nil
def axP:AW 5 apJ (.node 15 ⟨#[]⟩ ⟨#[]⟩ al.zero .nil axb):=show AW _ (_::_) _ from .leaf K K ax (fun g C=>ax) K K
end bS
