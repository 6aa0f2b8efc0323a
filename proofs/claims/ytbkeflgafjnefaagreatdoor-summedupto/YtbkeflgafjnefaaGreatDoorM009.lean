import Derived.Test.YtbkeflgafjnefaaGreatDoorM007
import Derived.Shelf.Strings.Cut
set_option maxHeartbeats 20000000
set_option maxRecDepth 100000
set_option linter.all false
namespace Go.Proofs
open Go.Shelf
def Tryz.aaR:Go.Shelf.Ren:=⟨fun | 145=>179 | 220=>256 | 219=>346 | 217=>351 | 225=>397 | 224=>398 | 267=>399 | 266=>402 | 314=>409 | n=>n,fun | 9=>9 | 4=>4 | 59=>314 | 3=>3 | 5=>5 | 46=>225 | 146=>504 | 51=>364 | n=>n,fun | 1=>1 | n=>n⟩
theorem Tryz.aaS:Go.Proofs.Lays.n145 Tryz.prog Tryz.aaR:={
 mixed:=ax
 f145:=Tryz.func179.trans (congrArg some ax)
 f217:=Tryz.func351.trans (congrArg some ax)
 f219:=Tryz.func346.trans (congrArg some ax)
 f220:=Tryz.func256.trans (congrArg some ax)
 f224:=Tryz.func398.trans (congrArg some ax)
 f225:=Tryz.func397.trans (congrArg some ax)
 f266:=Tryz.func402.trans (congrArg some ax)
 f267:=Tryz.func399.trans (congrArg some ax)
 f314:=Tryz.func409.trans (congrArg some ax)
 t3:=Tryz.underlying3
 a3:=Tryz.isAgg3
 z3:=Tryz.sizeOf3
 v3:=Tryz.zeroValue3
 t4:=Tryz.underlying4
 a4:=Tryz.isAgg4
 z4:=Tryz.sizeOf4
 v4:=Tryz.zeroValue4
 t5:=Tryz.underlying5
 a5:=Tryz.isAgg5
 z5:=Tryz.sizeOf5
 v5:=Tryz.zeroValue5
 t9:=Tryz.underlying9
 a9:=Tryz.isAgg9
 z9:=Tryz.sizeOf9
 v9:=Tryz.zeroValue9
 t46:=Tryz.underlying225
 a46:=Tryz.isAgg225
 z46:=Tryz.sizeOf225
 v46:=Tryz.zeroValue225
 t51:=Tryz.underlying364
 a51:=Tryz.isAgg364
 z51:=Tryz.sizeOf364
 v51:=Tryz.zeroValue364
 t59:=Tryz.underlying314
 a59:=Tryz.isAgg314
 z59:=Tryz.sizeOf314
 v59:=Tryz.zeroValue314
 t146:=Tryz.underlying504
 a146:=Tryz.isAgg504
 z146:=Tryz.sizeOf504
 v146:=Tryz.zeroValue504
 g1:=by kernel_rfl}
open Go.RowKit Go.Lib in
theorem Tryz.strings_Cut(s sep:ByteArray)(m:Int)(w:World)(hs:s.size<4294967281)(hm:w.cell? ⟨1,0,none⟩=some (.int .i64 m)):Calls Tryz.prog 179 #[.string s,.string sep] w fun e w'=>e=.returned (.tuple #[.string ⟨(Lib.cut s.data.toList sep.data.toList).1.toArray⟩,.string ⟨(Lib.cut s.data.toList sep.data.toList).2.1.toArray⟩,.bool (Lib.cut s.data.toList sep.data.toList).2.2])/\∃n,w'=w.drewN n:=Any.strings_Cut Tryz.aaS s sep m w hs hm
end Go.Proofs
