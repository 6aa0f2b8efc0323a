import Derived.Test.YthhnephbfgjoaaaGreatDoorC007
import Derived.Shelf.Small.Bits
import Derived.Shelf.Strconv.Itoa4
set_option maxHeartbeats 0
set_option maxRecDepth 100000
set_option linter.all false
namespace Go.Proofs
open Go.Shelf
def Tryz.akS:Go.Shelf.Ren:=⟨fun | 173=>153 | 246=>215 | 283=>272 | 284=>273 | 285=>274 | 286=>275 | 129=>148 | 317=>293 | 318=>294 | 319=>295 | 320=>296 | 337=>305 | 338=>306 | n=>n,fun | 2=>2 | 3=>3 | 9=>9 | 4=>4 | 171=>329 | 0=>0 | 53=>232 | 37=>92 | 5=>5 | 173=>331 | 212=>348 | 51=>230 | 20=>20 | 213=>349 | 46=>181 | 232=>355 | 233=>356 | n=>n,fun | 17=>4 | 18=>6 | 19=>7 | n=>n⟩
def Tryz.akT:Go.Proofs.LaysM.n173 Tryz.prog Tryz.akS:={
 mixed:=ax
 f129:=Tryz.func148.trans (congrArg some ax)
 f173:=Tryz.func153.trans (congrArg some ax)
 f246:=Tryz.func215.trans (congrArg some ax)
 f283:=Tryz.func272.trans (congrArg some ax)
 f284:=Tryz.func273.trans (congrArg some ax)
 f285:=Tryz.func274.trans (congrArg some ax)
 f286:=Tryz.func275.trans (congrArg some ax)
 f317:=Tryz.func293.trans (congrArg some ax)
 f318:=Tryz.func294.trans (congrArg some ax)
 f319:=Tryz.func295.trans (congrArg some ax)
 f320:=Tryz.func296.trans (congrArg some ax)
 f337:=Tryz.func305.trans (congrArg some ax)
 f338:=Tryz.func306.trans (congrArg some ax)
 t0:=Tryz.underlying0
 a0:=Tryz.isAgg0
 z0:=Tryz.sizeOf0
 v0:=Tryz.zeroValue0
 t2:=Tryz.underlying2
 a2:=Tryz.isAgg2
 z2:=Tryz.sizeOf2
 v2:=Tryz.zeroValue2
 t3:=Tryz.underlying3
 a3:=Tryz.isAgg3
 z3:=Tryz.sizeOf3
 v3:=Tryz.zeroValue3
 t4:=Tryz.underlying4
 a4:=Tryz.isAgg4
 z4:=Tryz.sizeOf4
 v4:=Tryz.zeroValue4
 t5:=Tryz.underlying5
 a5:=Tryz.isAgg5
 z5:=Tryz.sizeOf5
 v5:=Tryz.zeroValue5
 t9:=Tryz.underlying9
 a9:=Tryz.isAgg9
 z9:=Tryz.sizeOf9
 v9:=Tryz.zeroValue9
 t20:=Tryz.underlying20
 a20:=Tryz.isAgg20
 z20:=Tryz.sizeOf20
 v20:=Tryz.zeroValue20
 t37:=Tryz.underlying92
 a37:=Tryz.isAgg92
 z37:=Tryz.sizeOf92
 v37:=Tryz.zeroValue92
 t46:=Tryz.underlying181
 a46:=Tryz.isAgg181
 z46:=Tryz.sizeOf181
 v46:=Tryz.zeroValue181
 t51:=Tryz.underlying230
 a51:=Tryz.isAgg230
 z51:=Tryz.sizeOf230
 v51:=Tryz.zeroValue230
 t53:=Tryz.underlying232
 a53:=Tryz.isAgg232
 z53:=Tryz.sizeOf232
 v53:=Tryz.zeroValue232
 t171:=Tryz.underlying329
 a171:=Tryz.isAgg329
 z171:=Tryz.sizeOf329
 v171:=Tryz.zeroValue329
 t173:=Tryz.underlying331
 a173:=Tryz.isAgg331
 z173:=Tryz.sizeOf331
 v173:=Tryz.zeroValue331
 t212:=Tryz.underlying348
 a212:=Tryz.isAgg348
 z212:=Tryz.sizeOf348
 v212:=Tryz.zeroValue348
 t213:=Tryz.underlying349
 a213:=Tryz.isAgg349
 z213:=Tryz.sizeOf349
 t232:=Tryz.underlying355
 a232:=Tryz.isAgg355
 z232:=Tryz.sizeOf355
 v232:=Tryz.zeroValue355
 t233:=Tryz.underlying356
 a233:=Tryz.isAgg356
 z233:=Tryz.sizeOf356
 v233:=Tryz.zeroValue356
 g17:=ax
 g18:=ax
 g19:=ax
 i0:=ax
 i2:=ax
 i3:=ax
 i4:=ax
 i5:=ax
 i9:=ax
 i20:=ax
 i37:=ax
 i46:=ax
 i51:=ax
 i53:=ax
 i171:=ax
 i173:=ax
 i212:=ax
 i232:=ax
 i233:=ax
 m17:=ax
 m18:=ax
 m19:=by kernel_rfl}
open Go.RowKit Go.Sort Go.Lib in
def Tryz.strconv_FormatInt_10(n:Int)(aw : -9223372036854775808<=n)(h1:n<=9223372036854775807)(w:World)(Ez:Lib.TabIs Tryz.prog w "internal/strconv.uint64pow10" .u64 Lib.pow10Tab):Calls Tryz.prog 153 #[.int .i64 n,.int .i64 10] w fun e w'=>e=.returned (.string ⟨(Lib.itoa n).toArray⟩)/\∃k os,w'=grow (w.drewN k) os:=Any.strconv_FormatInt_10 Tryz.akT n aw h1 w Ez
end Go.Proofs
