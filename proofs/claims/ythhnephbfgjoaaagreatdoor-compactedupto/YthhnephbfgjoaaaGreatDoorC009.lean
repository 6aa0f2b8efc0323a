import Derived.Test.YthhnephbfgjoaaaGreatDoorC007
set_option maxHeartbeats 0
set_option maxRecDepth 100000
set_option linter.all false
namespace Go.Proofs
open Go.Shelf
def Tryz.aaR:Go.Shelf.Ren:=⟨fun | 145=>81 | 220=>113 | 219=>159 | 217=>225 | 225=>226 | 224=>227 | 267=>228 | 266=>279 | 314=>280 | n=>n,fun | 9=>9 | 4=>4 | 59=>156 | 3=>3 | 5=>5 | 46=>181 | 146=>339 | 51=>230 | n=>n,fun | 1=>1 | n=>n⟩
def Tryz.aaS:Go.Proofs.Lays.n145 Tryz.prog Tryz.aaR:={
 mixed:=ax
 f145:=Tryz.func81.trans (congrArg some ax)
 f217:=Tryz.func225.trans (congrArg some ax)
 f219:=Tryz.func159.trans (congrArg some ax)
 f220:=Tryz.func113.trans (congrArg some ax)
 f224:=Tryz.func227.trans (congrArg some ax)
 f225:=Tryz.func226.trans (congrArg some ax)
 f266:=Tryz.func279.trans (congrArg some ax)
 f267:=Tryz.func228.trans (congrArg some ax)
 f314:=Tryz.func280.trans (congrArg some ax)
 t3:=Tryz.underlying3
 a3:=Tryz.isAgg3
 z3:=Tryz.sizeOf3
 v3:=Tryz.zeroValue3
 t4:=Tryz.underlying4
 a4:=Tryz.isAgg4
 z4:=Tryz.sizeOf4
 v4:=Tryz.zeroValue4
 t5:=Tryz.underlying5
 a5:=Tryz.isAgg5
 z5:=Tryz.sizeOf5
 v5:=Tryz.zeroValue5
 t9:=Tryz.underlying9
 a9:=Tryz.isAgg9
 z9:=Tryz.sizeOf9
 v9:=Tryz.zeroValue9
 t46:=Tryz.underlying181
 a46:=Tryz.isAgg181
 z46:=Tryz.sizeOf181
 v46:=Tryz.zeroValue181
 t51:=Tryz.underlying230
 a51:=Tryz.isAgg230
 z51:=Tryz.sizeOf230
 v51:=Tryz.zeroValue230
 t59:=Tryz.underlying156
 a59:=Tryz.isAgg156
 z59:=Tryz.sizeOf156
 v59:=Tryz.zeroValue156
 t146:=Tryz.underlying339
 a146:=Tryz.isAgg339
 z146:=Tryz.sizeOf339
 v146:=Tryz.zeroValue339
 g1:=by kernel_rfl}
open Go.RowKit Go.Lib in
def Tryz.strings_Cut(s sep:ByteArray)(m:Int)(w:World)(hs:s.size<4294967281)(hm:w.cell? ⟨1,0,none⟩=some (.int .i64 m)):Calls Tryz.prog 81 #[.string s,.string sep] w fun e w'=>e=.returned (.tuple #[.string ⟨(Lib.cut s.data.toList sep.data.toList).1.toArray⟩,.string ⟨(Lib.cut s.data.toList sep.data.toList).2.1.toArray⟩,.bool (Lib.cut s.data.toList sep.data.toList).2.2])/\∃n,w'=w.drewN n:=Any.strings_Cut Tryz.aaS s sep m w hs hm
end Go.Proofs
