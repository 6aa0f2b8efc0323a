import Derived.Test.YtbkeflgafjnefaaGreatDoorM007
import Derived.Shelf.Small.Bits
import Derived.Shelf.Strconv.Itoa0
import Derived.Shelf.Strconv.Itoa1
import Derived.Shelf.Strconv.Itoa2
import Derived.Shelf.Strconv.Itoa3
import Derived.Shelf.Strconv.Itoa4
set_option maxHeartbeats 20000000
set_option maxRecDepth 100000
set_option linter.all false
namespace Go.Proofs
open Go.Shelf
def Tryz.akS:Go.Shelf.Ren:=⟨fun | 173=>228 | 246=>314 | 283=>382 | 284=>383 | 285=>384 | 286=>385 | 129=>223 | 317=>404 | 318=>405 | 319=>406 | 320=>407 | 337=>411 | 338=>412 | n=>n,fun | 2=>2 | 3=>3 | 9=>9 | 4=>4 | 171=>481 | 0=>0 | 53=>366 | 37=>122 | 5=>5 | 173=>483 | 212=>497 | 51=>364 | 20=>20 | 213=>498 | 46=>225 | 232=>506 | 233=>507 | n=>n,fun | 17=>3 | 18=>6 | 19=>7 | n=>n⟩
theorem Tryz.akT:Go.Proofs.LaysM.n173 Tryz.prog Tryz.akS:={
 mixed:=ax
 f129:=Tryz.func223.trans (congrArg some ax)
 f173:=Tryz.func228.trans (congrArg some ax)
 f246:=Tryz.func314.trans (congrArg some ax)
 f283:=Tryz.func382.trans (congrArg some ax)
 f284:=Tryz.func383.trans (congrArg some ax)
 f285:=Tryz.func384.trans (congrArg some ax)
 f286:=Tryz.func385.trans (congrArg some ax)
 f317:=Tryz.func404.trans (congrArg some ax)
 f318:=Tryz.func405.trans (congrArg some ax)
 f319:=Tryz.func406.trans (congrArg some ax)
 f320:=Tryz.func407.trans (congrArg some ax)
 f337:=Tryz.func411.trans (congrArg some ax)
 f338:=Tryz.func412.trans (congrArg some ax)
 t0:=Tryz.underlying0
 a0:=Tryz.isAgg0
 z0:=Tryz.sizeOf0
 v0:=Tryz.zeroValue0
 t2:=Tryz.underlying2
 a2:=Tryz.isAgg2
 z2:=Tryz.sizeOf2
 v2:=Tryz.zeroValue2
 t3:=Tryz.underlying3
 a3:=Tryz.isAgg3
 z3:=Tryz.sizeOf3
 v3:=Tryz.zeroValue3
 t4:=Tryz.underlying4
 a4:=Tryz.isAgg4
 z4:=Tryz.sizeOf4
 v4:=Tryz.zeroValue4
 t5:=Tryz.underlying5
 a5:=Tryz.isAgg5
 z5:=Tryz.sizeOf5
 v5:=Tryz.zeroValue5
 t9:=Tryz.underlying9
 a9:=Tryz.isAgg9
 z9:=Tryz.sizeOf9
 v9:=Tryz.zeroValue9
 t20:=Tryz.underlying20
 a20:=Tryz.isAgg20
 z20:=Tryz.sizeOf20
 v20:=Tryz.zeroValue20
 t37:=Tryz.underlying122
 a37:=Tryz.isAgg122
 z37:=Tryz.sizeOf122
 v37:=Tryz.zeroValue122
 t46:=Tryz.underlying225
 a46:=Tryz.isAgg225
 z46:=Tryz.sizeOf225
 v46:=Tryz.zeroValue225
 t51:=Tryz.underlying364
 a51:=Tryz.isAgg364
 z51:=Tryz.sizeOf364
 v51:=Tryz.zeroValue364
 t53:=Tryz.underlying366
 a53:=Tryz.isAgg366
 z53:=Tryz.sizeOf366
 v53:=Tryz.zeroValue366
 t171:=Tryz.underlying481
 a171:=Tryz.isAgg481
 z171:=Tryz.sizeOf481
 v171:=Tryz.zeroValue481
 t173:=Tryz.underlying483
 a173:=Tryz.isAgg483
 z173:=Tryz.sizeOf483
 v173:=Tryz.zeroValue483
 t212:=Tryz.underlying497
 a212:=Tryz.isAgg497
 z212:=Tryz.sizeOf497
 v212:=Tryz.zeroValue497
 t213:=Tryz.underlying498
 a213:=Tryz.isAgg498
 z213:=Tryz.sizeOf498
 t232:=Tryz.underlying506
 a232:=Tryz.isAgg506
 z232:=Tryz.sizeOf506
 v232:=Tryz.zeroValue506
 t233:=Tryz.underlying507
 a233:=Tryz.isAgg507
 z233:=Tryz.sizeOf507
 v233:=Tryz.zeroValue507
 g17:=ax
 g18:=ax
 g19:=ax
 i0:=ax
 i2:=ax
 i3:=ax
 i4:=ax
 i5:=ax
 i9:=ax
 i20:=ax
 i37:=ax
 i46:=ax
 i51:=ax
 i53:=ax
 i171:=ax
 i173:=ax
 i212:=ax
 i232:=ax
 i233:=ax
 m17:=ax
 m18:=ax
 m19:=by kernel_rfl}
open Go.RowKit Go.Sort Go.Lib in
theorem Tryz.strconv_FormatInt_10(n:Int)(aw : -9223372036854775808<=n)(h1:n<=9223372036854775807)(w:World)(Ez:Lib.TabIs Tryz.prog w "internal/strconv.uint64pow10" .u64 Lib.pow10Tab):Calls Tryz.prog 228 #[.int .i64 n,.int .i64 10] w fun e w'=>e=.returned (.string ⟨(Lib.itoa n).toArray⟩)/\∃k os,w'=grow (w.drewN k) os:=Any.strconv_FormatInt_10 Tryz.akT n aw h1 w Ez
end Go.Proofs
