import Derived.Test.YtjebdgbpopolkaaGreatDoorM002
import Derived.Deep.RegionLaw
import Derived.Deep.AppendLies
import Derived.Deep.DeepCutAuto
import Derived.Deep.CutBlock
set_option maxHeartbeats 0
set_option maxRecDepth 100000
set_option linter.all false
namespace Go.Proofs.YtjebdgbpopolkaaGreatDoor
open Tryz
open Go.RowKit
def Hg(b:Nat):∀(vs:List Value) (o:Nat) (w:World) (k:Nat),k≠b->(w.setCells b o vs).heap[k]?=w.heap[k]?
 | [],_,_,_,_=>rfl
 | v::C,o,w,k,h=>by rw[World.setCells,Hg b C (o+1) _ k h];exact Below.heap_setCell _ _ _ k h
def Hh(b:Nat)(e:TypeId):∀(vs:List Value) (o:Nat) (w:World) (ay:Array Value),w.heap[b]?=some (.cells ay e (0,0))->o+vs.length<=ay.size->∃D2,(w.setCells b o vs).heap[b]?=some (.cells D2 e (0,0))/\D2.size=ay.size/\D2.toList=ay.toList.take o++vs++ay.toList.drop (o+vs.length)
 | [],o,w,ay,h,X=>⟨ay,h,rfl,by simp⟩
 | v::C,o,w,ay,h,X=>by rw[di] at X;have h1:=heap_setCell_same w b o ay e v h;obtain⟨D2,H,ab,aK⟩:=Hh b e C (o+1) (w.setCell ⟨b,o,none⟩ v) (ay.setIfInBounds o v) h1 (by simp;omega);refine⟨D2,H,by simpa using ab,?_⟩;have sq:ay.toList.length=ay.size:=ax7;rw[aK,Array.toList_setIfInBounds];rw[jD (by rw[List.length_set];omega),List.getElem_set_self,List.take_set_of_le r,List.drop_set_of_lt r,di];simp;congr 1;omega
def Hi(b:Nat):∀(vs:List Value) (o:Nat) (w:World),(w.setCells b o vs).os=w.os/\(w.setCells b o vs).tape=w.tape/\(w.setCells b o vs).output=w.output/\(w.setCells b o vs).heap.size=w.heap.size
 | [],_,_=>⟨rfl,rfl,rfl,rfl⟩
 | v::C,o,w=>by obtain⟨h1,H,ab,aK⟩:=Hi b C (o+1) (w.setCell ⟨b,o,none⟩ v);exact⟨h1,H,ab,aK.trans (by simp[World.setCell])⟩
def aeu{P:Program}(w:World)(t e ty:TypeId)(x y:Value)(au:P.underlying t=some (.slice e))(hv:∀w,(zeroValue e).run P w=.ok (.agg #[x,y]) w)(aa:x.oneCell'=true)(hy:y.oneCell'=true)(aY:(Builtin.zeroCells (Value.agg #[x,y]).cells 1).toList=[x,y])(b o c:Nat)(ai:∀j,j<2->(dp w b (o+j)).isSome=true)(av:∀j,j<2->w.frozen? ⟨b,o+j,none⟩=false):(Builtin.clear_ #[t] ty #[.slice (some ⟨b,o,none⟩) 1 c]).run P w=.ok (.tuple #[]) (w.setCells b o [x,y]):=by have c4:=run_storeCells_cells (P:=P) b o [x,y] 0 w (by simpa using ai) (by simpa using av) (by intro v Hj;simp at Hj;rcases Hj with rfl | rfl<;>assumption);simp only[Nat.add_zero] at c4;simp[Builtin.clear_,run_underlying au,hv,aY,c4]
def aev:(Builtin.zeroCells (Value.agg #[q 0,.slice none 0 0]).cells 1).toList=[q 0,.slice none 0 0]:=ax
def aew:(prog.info? 115).map (fun i=>(i.zero,i.size,i.bytes))=some (some (.agg #[q 0,.slice none 0 0]),2,32):=ax
def aex{ay:Array Value}{n i af:Nat}{xs:List Value}{c1 c2:Array Value}(hi:i<n)(ar:n<=af)(hs:ay.size=af*2)(aa:ay.toList.take (n*2)=xs)(h1:c1.toList=ay.toList.take (i*2)++xs.drop (i*2+2)++ay.toList.drop (i*2+(xs.drop (i*2+2)).length))(a b:Value)(H:c2.toList=c1.toList.take ((n-1)*2)++[a,b]++c1.toList.drop ((n-1)*2+2)):c2.toList.take ((n-1)*2)=xs.take (i*2)++xs.drop (i*2+2):=by
 have sq:ay.toList.length=af*2:=by rw[ax7,hs]
 have BG:xs.length=n*2:=by rw[<-aa,List.length_take];omega
 have Y:ay.toList.take (i*2)=xs.take (i*2):=by rw[<-aa,List.take_take];congr 1;omega
 have l1:(xs.take (i*2)++xs.drop (i*2+2)).length=(n-1)*2:=by rw[cu,List.length_take,List.length_drop];omega
 have am:c1.toList.take ((n-1)*2)=xs.take (i*2)++xs.drop (i*2+2):=by rw[h1,Y,List.take_append_of_le_length r,List.take_of_length_le r]
 rw[H,am,List.append_assoc,List.take_append_of_le_length r,List.take_of_length_le r]
def aey(lo g af n i:Nat)(xs:List Value)(w:World)(an:w.ownsRow lo 115 2 (.slice (some ⟨g,0,none⟩) n af) n xs)(D3:∀bp∈xs,bp.oneCell'=true)(hi:i<n)(ar:n<=1000):ey 62 #[.slice (some ⟨g,0,none⟩) n af,q (i:Int),q ((i:Int)+1)] w fun e w'=>e=.returned (.slice (some ⟨g,0,none⟩) (n-1) af)/\w'.ownsRow lo 115 2 (.slice (some ⟨g,0,none⟩) (n-1) af) (n-1) (xs.take (i*2)++xs.drop (i*2+2))/\w.grownBy w' (some g):=by
 obtain⟨i0,nM,gj,gx,cd⟩:=info_parts aew;obtain⟨BG,ej⟩:=an;rcases ej with⟨e,_⟩ | ⟨dM,cJ,ay,e,eI,ed,SR,kk,j2,BH⟩
 ·cases e
 obtain⟨rfl,rfl⟩:g=dM/\af=cJ:=by injection e with Y am bm;injection Y with Y;injection Y with Y;exact⟨Y,bm⟩
 clear e;unfold maxLen at kk;generalize BI:xs.drop (i*2+2)=news;have b7:news.length=(n-(i+1))*2:=by rw[<-BI,List.length_drop];omega
 have k7:w.drew.heap[g]?=some (.cells ay 115 (0,0)):=ed;obtain⟨zI,bJ,dV,nU⟩:=Hh g 115 news (i*2) w.drew ay k7 (by rw[b7,j2];omega);have iV:∀(j:Nat) bp,ay.toList[j]?=some bp->w.drew.cell? ⟨g,j,none⟩=some bp:=by intro j bp hu;rw[Array.getElem?_toList] at hu;simp[World.cell?,k7,hu]
 obtain⟨aB,cr,BJ⟩:∃aB:Addr,(if af=i+1 then some (⟨g,0,none⟩:Addr) else some ⟨g,(i+1)*2,none⟩)=some aB/\Hid (∀t bp,news[t]?=some bp->w.drew.cell? (aB.add t)=some bp):=by
  by_cases h:af=i+1
  ·refine⟨⟨g,0,none⟩,by simp[h],fun t bp hu=>?_⟩;have aw:news.length=0:=by rw[b7];omega
   rw[List.length_eq_zero_iff.1 aw] at hu;simp at hu
  ·refine⟨⟨g,(i+1)*2,none⟩,by simp[h],fun t bp hu=>?_⟩;have au:t<news.length:=(List.getElem?_eq_some_iff.1 hu).1;rw[Addr.add_lit];refine iV _ _ ?_;rw[<-BI,List.getElem?_drop,<-BH,List.getElem?_take,if_pos r] at hu;rw[<-hu];congr 1;omega
 have s1:Hid (news.length=(n-(i+1))*2):=b7;have s2:Hid (∀bp∈news,bp.oneCell'=true):=fun bp hu=>D3 bp (by rw[<-BI] at hu;exact List.mem_of_mem_drop hu);have dd:Hid (∀t,t<news.length->(w.drew.cell? ⟨g,0+i*2+t,none⟩).isSome=true/\w.drew.frozen? ⟨g,0+i*2+t,none⟩=false):=by intro t au;rw[b7] at au;refine⟨?_,by simp[World.frozen?,k7]⟩;rw[iV (0+i*2+t) _ (fC (by rw[ax7,j2];omega))];rfl
 obtain⟨ih,iv⟩:∃ih,ih=w.drew.setCells g (0+i*2) news:=⟨_,rfl⟩;have c7:0+i*2=i*2:=r;rw[c7] at iv;have fN:ih.heap[g]?=some (.cells zI 115 (0,0)):=by rw[iv];exact bJ
 have pN:∀ty,(Builtin.clear_ #[60] ty #[.slice (some ⟨g,(n-1)*2,none⟩) 1 (af-(n-1))]).run prog ih=.ok (.tuple #[]) (ih.setCells g ((n-1)*2) [q 0,.slice none 0 0]):=fun ty=>aeu ih _ _ ty _ _ underlying60 Tryz.zeroValue115 rfl rfl aev g ((n-1)*2) _ (fun j aS=>by simp[World.cell?,fN,Array.getElem?_eq_getElem (show(n-1)*2+j<zI.size by rw[dV,j2];omega)]) (fun j aS=>by simp[World.frozen?,fN]);obtain⟨Hk,ah,ep,nN⟩:=Hh g 115 [q 0,.slice none 0 0] ((n-1)*2) ih zI fN (by rw[dV,j2];simp;omega);have DR:Hid (w.grownBy (ih.setCells g ((n-1)*2) [q 0,.slice none 0 0]) (some g)):=u (by
  obtain⟨bq,a2,a3,a4⟩:=Hi g news (i*2) w.drew;obtain⟨cN,bL,fS,jg⟩:=Hi g [q 0,.slice none 0 0] ((n-1)*2) ih;rw[<-iv] at bq a2 a3 a4;refine⟨cN.trans bq,bL.trans a2,fS.trans a3,Nat.le_of_eq (jg.trans a4).symm,fun k _ hk=>?_⟩;have D4:k≠g:=fun e=>hk (by rw[e]);rw[Hg g _ _ _ k D4,iv,Hg g _ _ _ k D4];rfl)
 have D5:Hid ((ih.setCells g ((n-1)*2) [q 0,.slice none 0 0]).ownsRow lo 115 2 (.slice (some ⟨g,0,none⟩) (n-1) af) (n-1) (xs.take (i*2)++xs.drop (i*2+2))):=u (by
  refine⟨?_,.inr ⟨g,af,Hk,rfl,eI,ah,r,by unfold maxLen;omega,by rw[ep,dV,j2],?_⟩⟩
  ·rw[cu,List.length_take,List.length_drop];omega
  ·exact aex hi SR j2 BH (by rw[nU,BI]) _ _ nN)
 rw[BI] at D5;have aO:Hid (ih=w.drew.setCells g (0+i*2) news):=u (by rw[c7];exact iv);have fM:(i:Int)+1<=(n:Int):=r;have arR:(n:Int)<=(af:Int):=r;have aez:i<=af:=r;have aeA:(0:Int)<=(i:Int)+1:=r;have aeB:i+1<=af:=r;have cy:((i:Int)==(i:Int)+1)=false:=by rw[cV];omega
 clear iv fN bJ ah nU nN dV ep ed k7 iV BH BG D3 j2 b7 BI c7;go_enter func62,ntmps62;go_wp2_with fail;go_region_law (refine step_append_room rfl (.tmp 22) (.tmp 25) 60 rfl 115 i0 2 underlying60 nM gx g 0 i af (by simp[Act.eval,Act.put]) aB (n-(i+1)) (af-(i+1)) news (by simp[Act.eval,Act.put]) s1.d BJ.d s2.d r dd.d ?_;rw[<-aO.d]);rw[show i+(n-(i+1))=n-1 from r];have LD:¬af=n-1:=r;have dA:n-(n-1)=1:=r;have arS:n-1<=af:=r;have zJ:((n-1:Nat):Int)<=(n:Int):=r;have arT:(0:Int)<=((n-1:Nat):Int):=r;clear cr aeB aez fM aeA cy;go_wp2_with fail;go_ret;exact⟨rfl,D5.d,DR.d⟩
