import Derived.Test.YtkpddlaljibdoaaGreatDoorB007
import Derived.Shelf.Strings.Cut
set_option maxHeartbeats 20000000
set_option maxRecDepth 100000
set_option linter.all false
namespace Go.Proofs
open Go.Shelf
def Tryz.aaR:Go.Shelf.Ren:=⟨fun | 145=>110 | 220=>154 | 219=>221 | 217=>275 | 225=>276 | 224=>277 | 267=>278 | 266=>297 | 314=>298 | n=>n,fun | 9=>9 | 4=>4 | 59=>192 | 3=>3 | 5=>5 | 46=>178 | 146=>351 | 51=>229 | n=>n,fun | 1=>1 | n=>n⟩
def Tryz.aaS:Go.Proofs.Lays.n145 Tryz.prog Tryz.aaR:={
 mixed:=ax
 f145:=Tryz.func110.trans (congrArg some ax)
 f217:=Tryz.func275.trans (congrArg some ax)
 f219:=Tryz.func221.trans (congrArg some ax)
 f220:=Tryz.func154.trans (congrArg some ax)
 f224:=Tryz.func277.trans (congrArg some ax)
 f225:=Tryz.func276.trans (congrArg some ax)
 f266:=Tryz.func297.trans (congrArg some ax)
 f267:=Tryz.func278.trans (congrArg some ax)
 f314:=Tryz.func298.trans (congrArg some ax)
 t3:=Tryz.underlying3
 a3:=Tryz.isAgg3
 z3:=Tryz.sizeOf3
 v3:=Tryz.zeroValue3
 t4:=Tryz.underlying4
 a4:=Tryz.isAgg4
 z4:=Tryz.sizeOf4
 v4:=Tryz.zeroValue4
 t5:=Tryz.underlying5
 a5:=Tryz.isAgg5
 z5:=Tryz.sizeOf5
 v5:=Tryz.zeroValue5
 t9:=Tryz.underlying9
 a9:=Tryz.isAgg9
 z9:=Tryz.sizeOf9
 v9:=Tryz.zeroValue9
 t46:=Tryz.underlying178
 a46:=Tryz.isAgg178
 z46:=Tryz.sizeOf178
 v46:=Tryz.zeroValue178
 t51:=Tryz.underlying229
 a51:=Tryz.isAgg229
 z51:=Tryz.sizeOf229
 v51:=Tryz.zeroValue229
 t59:=Tryz.underlying192
 a59:=Tryz.isAgg192
 z59:=Tryz.sizeOf192
 v59:=Tryz.zeroValue192
 t146:=Tryz.underlying351
 a146:=Tryz.isAgg351
 z146:=Tryz.sizeOf351
 v146:=Tryz.zeroValue351
 g1:=by kernel_rfl}
open Go.RowKit Go.Lib in
def Tryz.strings_Cut(s sep:ByteArray)(m:Int)(w:World)(hs:s.size<4294967281)(hm:w.cell? ⟨1,0,none⟩=some (.int .i64 m)):Calls Tryz.prog 110 #[.string s,.string sep] w fun e w'=>e=.returned (.tuple #[.string ⟨(Lib.cut s.data.toList sep.data.toList).1.toArray⟩,.string ⟨(Lib.cut s.data.toList sep.data.toList).2.1.toArray⟩,.bool (Lib.cut s.data.toList sep.data.toList).2.2])/\∃n,w'=w.drewN n:=Any.strings_Cut Tryz.aaS s sep m w hs hm
end Go.Proofs
