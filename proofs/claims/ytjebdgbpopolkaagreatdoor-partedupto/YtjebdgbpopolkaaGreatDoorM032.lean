import Derived.Test.YtjebdgbpopolkaaGreatDoorM006
import Derived.Shelf.Small.Bits
import Derived.Shelf.Strconv.Itoa4
set_option maxHeartbeats 0
set_option maxRecDepth 100000
set_option linter.all false
namespace Go.Proofs
open Go.Shelf
def Tryz.akS:Go.Shelf.Ren:=⟨fun | 173=>131 | 246=>194 | 283=>254 | 284=>255 | 285=>256 | 286=>257 | 129=>126 | 317=>279 | 318=>280 | 319=>281 | 320=>282 | 337=>294 | 338=>295 | n=>n,fun | 2=>2 | 3=>3 | 9=>9 | 4=>4 | 171=>323 | 0=>0 | 53=>220 | 37=>72 | 5=>5 | 173=>325 | 212=>337 | 51=>218 | 20=>20 | 213=>338 | 46=>164 | 232=>350 | 233=>351 | n=>n,fun | 17=>2 | 18=>6 | 19=>7 | n=>n⟩
def Tryz.akT:Go.Proofs.LaysM.n173 Tryz.prog Tryz.akS:={
 mixed:=ax
 f129:=Tryz.func126.trans (congrArg some ax)
 f173:=Tryz.func131.trans (congrArg some ax)
 f246:=Tryz.func194.trans (congrArg some ax)
 f283:=Tryz.func254.trans (congrArg some ax)
 f284:=Tryz.func255.trans (congrArg some ax)
 f285:=Tryz.func256.trans (congrArg some ax)
 f286:=Tryz.func257.trans (congrArg some ax)
 f317:=Tryz.func279.trans (congrArg some ax)
 f318:=Tryz.func280.trans (congrArg some ax)
 f319:=Tryz.func281.trans (congrArg some ax)
 f320:=Tryz.func282.trans (congrArg some ax)
 f337:=Tryz.func294.trans (congrArg some ax)
 f338:=Tryz.func295.trans (congrArg some ax)
 t0:=Tryz.underlying0
 a0:=Tryz.isAgg0
 z0:=Tryz.sizeOf0
 v0:=Tryz.zeroValue0
 t2:=Tryz.underlying2
 a2:=Tryz.isAgg2
 z2:=Tryz.sizeOf2
 v2:=Tryz.zeroValue2
 t3:=Tryz.underlying3
 a3:=Tryz.isAgg3
 z3:=Tryz.sizeOf3
 v3:=Tryz.zeroValue3
 t4:=Tryz.underlying4
 a4:=Tryz.isAgg4
 z4:=Tryz.sizeOf4
 v4:=Tryz.zeroValue4
 t5:=Tryz.underlying5
 a5:=Tryz.isAgg5
 z5:=Tryz.sizeOf5
 v5:=Tryz.zeroValue5
 t9:=Tryz.underlying9
 a9:=Tryz.isAgg9
 z9:=Tryz.sizeOf9
 v9:=Tryz.zeroValue9
 t20:=Tryz.underlying20
 a20:=Tryz.isAgg20
 z20:=Tryz.sizeOf20
 v20:=Tryz.zeroValue20
 t37:=Tryz.underlying72
 a37:=Tryz.isAgg72
 z37:=Tryz.sizeOf72
 v37:=Tryz.zeroValue72
 t46:=Tryz.underlying164
 a46:=Tryz.isAgg164
 z46:=Tryz.sizeOf164
 v46:=Tryz.zeroValue164
 t51:=Tryz.underlying218
 a51:=Tryz.isAgg218
 z51:=Tryz.sizeOf218
 v51:=Tryz.zeroValue218
 t53:=Tryz.underlying220
 a53:=Tryz.isAgg220
 z53:=Tryz.sizeOf220
 v53:=Tryz.zeroValue220
 t171:=Tryz.underlying323
 a171:=Tryz.isAgg323
 z171:=Tryz.sizeOf323
 v171:=Tryz.zeroValue323
 t173:=Tryz.underlying325
 a173:=Tryz.isAgg325
 z173:=Tryz.sizeOf325
 v173:=Tryz.zeroValue325
 t212:=Tryz.underlying337
 a212:=Tryz.isAgg337
 z212:=Tryz.sizeOf337
 v212:=Tryz.zeroValue337
 t213:=Tryz.underlying338
 a213:=Tryz.isAgg338
 z213:=Tryz.sizeOf338
 t232:=Tryz.underlying350
 a232:=Tryz.isAgg350
 z232:=Tryz.sizeOf350
 v232:=Tryz.zeroValue350
 t233:=Tryz.underlying351
 a233:=Tryz.isAgg351
 z233:=Tryz.sizeOf351
 v233:=Tryz.zeroValue351
 g17:=ax
 g18:=ax
 g19:=ax
 i0:=ax
 i2:=ax
 i3:=ax
 i4:=ax
 i5:=ax
 i9:=ax
 i20:=ax
 i37:=ax
 i46:=ax
 i51:=ax
 i53:=ax
 i171:=ax
 i173:=ax
 i212:=ax
 i232:=ax
 i233:=ax
 m17:=ax
 m18:=ax
 m19:=by kernel_rfl}
open Go.RowKit Go.Sort Go.Lib in
def Tryz.strconv_FormatInt_10(n:Int)(aw : -9223372036854775808<=n)(h1:n<=9223372036854775807)(w:World)(Ez:Lib.TabIs Tryz.prog w "internal/strconv.uint64pow10" .u64 Lib.pow10Tab):Calls Tryz.prog 131 #[.int .i64 n,.int .i64 10] w fun e w'=>e=.returned (.string ⟨(Lib.itoa n).toArray⟩)/\∃k os,w'=grow (w.drewN k) os:=Any.strconv_FormatInt_10 Tryz.akT n aw h1 w Ez
end Go.Proofs
