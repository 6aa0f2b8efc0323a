import Derived.Test.YtkpddlaljibdoaaGreatDoorB007
import Derived.Shelf.Small.Bits
import Derived.Shelf.Strconv.Itoa0
import Derived.Shelf.Strconv.Itoa1
import Derived.Shelf.Strconv.Itoa2
import Derived.Shelf.Strconv.Itoa3
import Derived.Shelf.Strconv.Itoa4
set_option maxHeartbeats 20000000
set_option maxRecDepth 100000
set_option linter.all false
namespace Go.Proofs
open Go.Shelf
def Tryz.akS:Go.Shelf.Ren:=⟨fun | 173=>148 | 246=>209 | 283=>267 | 284=>268 | 285=>269 | 286=>270 | 129=>143 | 317=>292 | 318=>293 | 319=>294 | 320=>295 | 337=>307 | 338=>308 | n=>n,fun | 2=>2 | 3=>3 | 9=>9 | 4=>4 | 171=>331 | 0=>0 | 53=>231 | 37=>86 | 5=>5 | 173=>333 | 212=>344 | 51=>229 | 20=>20 | 213=>345 | 46=>178 | 232=>357 | 233=>358 | n=>n,fun | 17=>2 | 18=>6 | 19=>7 | n=>n⟩
def Tryz.akT:Go.Proofs.LaysM.n173 Tryz.prog Tryz.akS:={
 mixed:=ax
 f129:=Tryz.func143.trans (congrArg some ax)
 f173:=Tryz.func148.trans (congrArg some ax)
 f246:=Tryz.func209.trans (congrArg some ax)
 f283:=Tryz.func267.trans (congrArg some ax)
 f284:=Tryz.func268.trans (congrArg some ax)
 f285:=Tryz.func269.trans (congrArg some ax)
 f286:=Tryz.func270.trans (congrArg some ax)
 f317:=Tryz.func292.trans (congrArg some ax)
 f318:=Tryz.func293.trans (congrArg some ax)
 f319:=Tryz.func294.trans (congrArg some ax)
 f320:=Tryz.func295.trans (congrArg some ax)
 f337:=Tryz.func307.trans (congrArg some ax)
 f338:=Tryz.func308.trans (congrArg some ax)
 t0:=Tryz.underlying0
 a0:=Tryz.isAgg0
 z0:=Tryz.sizeOf0
 v0:=Tryz.zeroValue0
 t2:=Tryz.underlying2
 a2:=Tryz.isAgg2
 z2:=Tryz.sizeOf2
 v2:=Tryz.zeroValue2
 t3:=Tryz.underlying3
 a3:=Tryz.isAgg3
 z3:=Tryz.sizeOf3
 v3:=Tryz.zeroValue3
 t4:=Tryz.underlying4
 a4:=Tryz.isAgg4
 z4:=Tryz.sizeOf4
 v4:=Tryz.zeroValue4
 t5:=Tryz.underlying5
 a5:=Tryz.isAgg5
 z5:=Tryz.sizeOf5
 v5:=Tryz.zeroValue5
 t9:=Tryz.underlying9
 a9:=Tryz.isAgg9
 z9:=Tryz.sizeOf9
 v9:=Tryz.zeroValue9
 t20:=Tryz.underlying20
 a20:=Tryz.isAgg20
 z20:=Tryz.sizeOf20
 v20:=Tryz.zeroValue20
 t37:=Tryz.underlying86
 a37:=Tryz.isAgg86
 z37:=Tryz.sizeOf86
 v37:=Tryz.zeroValue86
 t46:=Tryz.underlying178
 a46:=Tryz.isAgg178
 z46:=Tryz.sizeOf178
 v46:=Tryz.zeroValue178
 t51:=Tryz.underlying229
 a51:=Tryz.isAgg229
 z51:=Tryz.sizeOf229
 v51:=Tryz.zeroValue229
 t53:=Tryz.underlying231
 a53:=Tryz.isAgg231
 z53:=Tryz.sizeOf231
 v53:=Tryz.zeroValue231
 t171:=Tryz.underlying331
 a171:=Tryz.isAgg331
 z171:=Tryz.sizeOf331
 v171:=Tryz.zeroValue331
 t173:=Tryz.underlying333
 a173:=Tryz.isAgg333
 z173:=Tryz.sizeOf333
 v173:=Tryz.zeroValue333
 t212:=Tryz.underlying344
 a212:=Tryz.isAgg344
 z212:=Tryz.sizeOf344
 v212:=Tryz.zeroValue344
 t213:=Tryz.underlying345
 a213:=Tryz.isAgg345
 z213:=Tryz.sizeOf345
 t232:=Tryz.underlying357
 a232:=Tryz.isAgg357
 z232:=Tryz.sizeOf357
 v232:=Tryz.zeroValue357
 t233:=Tryz.underlying358
 a233:=Tryz.isAgg358
 z233:=Tryz.sizeOf358
 v233:=Tryz.zeroValue358
 g17:=ax
 g18:=ax
 g19:=ax
 i0:=ax
 i2:=ax
 i3:=ax
 i4:=ax
 i5:=ax
 i9:=ax
 i20:=ax
 i37:=ax
 i46:=ax
 i51:=ax
 i53:=ax
 i171:=ax
 i173:=ax
 i212:=ax
 i232:=ax
 i233:=ax
 m17:=ax
 m18:=ax
 m19:=by kernel_rfl}
open Go.RowKit Go.Sort Go.Lib in
def Tryz.strconv_FormatInt_10(n:Int)(aw : -9223372036854775808<=n)(h1:n<=9223372036854775807)(w:World)(Ez:Lib.TabIs Tryz.prog w "internal/strconv.uint64pow10" .u64 Lib.pow10Tab):Calls Tryz.prog 148 #[.int .i64 n,.int .i64 10] w fun e w'=>e=.returned (.string ⟨(Lib.itoa n).toArray⟩)/\∃k os,w'=grow (w.drewN k) os:=Any.strconv_FormatInt_10 Tryz.akT n aw h1 w Ez
end Go.Proofs
