import Derived.Test.YtjebdgbpopolkaaGreatDoorM006
set_option maxHeartbeats 0
set_option maxRecDepth 100000
set_option linter.all false
namespace Go.Proofs
open Go.Shelf
def Tryz.aaR:Go.Shelf.Ren:=⟨fun | 145=>93 | 220=>139 | 219=>208 | 217=>262 | 225=>263 | 224=>264 | 267=>265 | 266=>284 | 314=>285 | n=>n,fun | 9=>9 | 4=>4 | 59=>181 | 3=>3 | 5=>5 | 46=>164 | 146=>344 | 51=>218 | n=>n,fun | 1=>1 | n=>n⟩
def Tryz.aaS:Go.Proofs.Lays.n145 Tryz.prog Tryz.aaR:={
 mixed:=ax
 f145:=Tryz.func93.trans (congrArg some ax)
 f217:=Tryz.func262.trans (congrArg some ax)
 f219:=Tryz.func208.trans (congrArg some ax)
 f220:=Tryz.func139.trans (congrArg some ax)
 f224:=Tryz.func264.trans (congrArg some ax)
 f225:=Tryz.func263.trans (congrArg some ax)
 f266:=Tryz.func284.trans (congrArg some ax)
 f267:=Tryz.func265.trans (congrArg some ax)
 f314:=Tryz.func285.trans (congrArg some ax)
 t3:=Tryz.underlying3
 a3:=Tryz.isAgg3
 z3:=Tryz.sizeOf3
 v3:=Tryz.zeroValue3
 t4:=Tryz.underlying4
 a4:=Tryz.isAgg4
 z4:=Tryz.sizeOf4
 v4:=Tryz.zeroValue4
 t5:=Tryz.underlying5
 a5:=Tryz.isAgg5
 z5:=Tryz.sizeOf5
 v5:=Tryz.zeroValue5
 t9:=Tryz.underlying9
 a9:=Tryz.isAgg9
 z9:=Tryz.sizeOf9
 v9:=Tryz.zeroValue9
 t46:=Tryz.underlying164
 a46:=Tryz.isAgg164
 z46:=Tryz.sizeOf164
 v46:=Tryz.zeroValue164
 t51:=Tryz.underlying218
 a51:=Tryz.isAgg218
 z51:=Tryz.sizeOf218
 v51:=Tryz.zeroValue218
 t59:=Tryz.underlying181
 a59:=Tryz.isAgg181
 z59:=Tryz.sizeOf181
 v59:=Tryz.zeroValue181
 t146:=Tryz.underlying344
 a146:=Tryz.isAgg344
 z146:=Tryz.sizeOf344
 v146:=Tryz.zeroValue344
 g1:=by kernel_rfl}
open Go.RowKit Go.Lib in
def Tryz.strings_Cut(s sep:ByteArray)(m:Int)(w:World)(hs:s.size<4294967281)(hm:w.cell? ⟨1,0,none⟩=some (.int .i64 m)):Calls Tryz.prog 93 #[.string s,.string sep] w fun e w'=>e=.returned (.tuple #[.string ⟨(Lib.cut s.data.toList sep.data.toList).1.toArray⟩,.string ⟨(Lib.cut s.data.toList sep.data.toList).2.1.toArray⟩,.bool (Lib.cut s.data.toList sep.data.toList).2.2])/\∃n,w'=w.drewN n:=Any.strings_Cut Tryz.aaS s sep m w hs hm
end Go.Proofs
