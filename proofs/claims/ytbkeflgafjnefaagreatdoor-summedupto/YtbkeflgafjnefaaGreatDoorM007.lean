import Derived.Test.YtbkeflgafjnefaaGreatDoorM00
import Derived.Shelf.Strings.Builder1
import Derived.Shelf.Small.Strs
import Derived.Shelf.Small.Wraps
import Derived.Shelf.Strings.BuilderF
import Derived.Shelf.Strings.BuilderK
import Derived.Shelf.LaysM
import Derived.Shelf.Strconv.Clone
import Derived.Shelf.Strings.Search1
import Derived.Shelf.Strings.Search2
import Derived.Shelf.Strings.Search3
import Derived.Shelf.Strings.Count
import Derived.Shelf.Strings.Shaped
import Derived.Shelf.Strings.Prefix
import Derived.Shelf.Strings.Split
import Derived.Test.YtbkeflgafjnefaaGreatDoorProg
set_option maxHeartbeats 20000000
set_option maxRecDepth 100000
set_option linter.all false
namespace Go.Proofs
open Go.Shelf
def Tryz.QC:Go.Shelf.Ren:=⟨fun | 169=>84 | n=>n,fun | 70=>149 | 9=>9 | 0=>0 | 72=>151 | 37=>122 | 127=>247 | 3=>3 | 5=>5 | n=>n,fun | n=>n⟩
theorem Tryz.aao:Go.Proofs.Lays.n169 Tryz.prog Tryz.QC:={
 mixed:=ax
 f169:=Tryz.func84.trans (congrArg some ax)
 t0:=Tryz.underlying0
 a0:=Tryz.isAgg0
 z0:=Tryz.sizeOf0
 v0:=Tryz.zeroValue0
 t3:=Tryz.underlying3
 a3:=Tryz.isAgg3
 z3:=Tryz.sizeOf3
 v3:=Tryz.zeroValue3
 t9:=Tryz.underlying9
 a9:=Tryz.isAgg9
 z9:=Tryz.sizeOf9
 v9:=Tryz.zeroValue9
 t37:=Tryz.underlying122
 a37:=Tryz.isAgg122
 z37:=Tryz.sizeOf122
 v37:=Tryz.zeroValue122
 t70:=Tryz.underlying149
 a70:=Tryz.isAgg149
 z70:=Tryz.sizeOf149
 v70:=Tryz.zeroValue149
 t72:=Tryz.underlying151
 a72:=Tryz.isAgg151
 z72:=Tryz.sizeOf151
 v72:=Tryz.zeroValue151
 t127:=Tryz.underlying247
 a127:=Tryz.isAgg247
 z127:=Tryz.sizeOf247
 v127:=Tryz.zeroValue247}
theorem Tryz.Dd:Builder.Extra Tryz.prog Tryz.QC:={
 sizeBuilder:=ax
 liesBuilder:=ax
 t5:=Tryz.underlying5
 a5:=Tryz.isAgg5
 z5:=Tryz.sizeOf5
 v5:=Tryz.zeroValue5
 infoByte:=ax
 cellsByte:=ax
 sizeByte:=ax
 neB5:=by decide}
open Go.RowKit in
theorem Tryz.Builder_String_any(bB b:Nat)(l:List UInt8)(w:World)(h:Lib.IsBuilder 151 5 bB b (Lib.byteCells l) w)(Kd:bB<=w.heap.size):Calls Tryz.prog 84 #[.pointer (some ⟨b,0,none⟩)] w fun e w'=>e=.returned (.string ⟨l.toArray⟩)/\Below bB w w':=Any.Builder_String_any Tryz.aao Tryz.Dd bB b l w h Kd
def Tryz.aap:Go.Shelf.Ren:=⟨fun | 106=>226 | 213=>312 | 265=>381 | n=>n,fun | 9=>9 | 3=>3 | n=>n,fun | n=>n⟩
theorem Tryz.aaq:Go.Proofs.Lays.n106 Tryz.prog Tryz.aap:={
 mixed:=ax
 f106:=Tryz.func226.trans (congrArg some ax)
 f213:=Tryz.func312.trans (congrArg some ax)
 f265:=Tryz.func381.trans (congrArg some ax)
 t3:=Tryz.underlying3
 a3:=Tryz.isAgg3
 z3:=Tryz.sizeOf3
 v3:=Tryz.zeroValue3
 t9:=Tryz.underlying9
 a9:=Tryz.isAgg9
 z9:=Tryz.sizeOf9
 v9:=Tryz.zeroValue9}
open Go.RowKit in
theorem Tryz.strings_Compare(a b:ByteArray)(w:World):Calls Tryz.prog 226 #[.string a,.string b] w fun e w'=>e=.returned (.int .i64 (Lib.compareBytes a.data.toList b.data.toList))/\w'=w:=Any.strings_Compare Tryz.aaq a b w
def Tryz.aar:Go.Shelf.Ren:=⟨fun | 137=>261 | 217=>351 | 266=>402 | n=>n,fun | 9=>9 | 5=>5 | 3=>3 | n=>n,fun | n=>n⟩
theorem Tryz.aas:Go.Proofs.Lays.n137 Tryz.prog Tryz.aar:={
 mixed:=ax
 f137:=Tryz.func261.trans (congrArg some ax)
 f217:=Tryz.func351.trans (congrArg some ax)
 f266:=Tryz.func402.trans (congrArg some ax)
 t3:=Tryz.underlying3
 a3:=Tryz.isAgg3
 z3:=Tryz.sizeOf3
 v3:=Tryz.zeroValue3
 t5:=Tryz.underlying5
 a5:=Tryz.isAgg5
 z5:=Tryz.sizeOf5
 v5:=Tryz.zeroValue5
 t9:=Tryz.underlying9
 a9:=Tryz.isAgg9
 z9:=Tryz.sizeOf9
 v9:=Tryz.zeroValue9}
open Go.RowKit in
theorem Tryz.strings_IndexByte(s:ByteArray)(c:Int)(w:World):Calls Tryz.prog 261 #[.string s,.int .u8 c] w fun e w'=>e=.returned (.int .i64 (Lib.indexByte s.data.toList c.toNat.toUInt8))/\w'=w:=Any.strings_IndexByte Tryz.aas s c w
def Tryz.aat:Go.Shelf.Ren:=⟨fun | 103=>349 | 210=>401 | 206=>347 | n=>n,fun | 9=>9 | 4=>4 | 24=>54 | 3=>3 | n=>n,fun | n=>n⟩
theorem Tryz.aau:Go.Proofs.Lays.n103 Tryz.prog Tryz.aat:={
 mixed:=ax
 f103:=Tryz.func349.trans (congrArg some ax)
 f206:=Tryz.func347.trans (congrArg some ax)
 f210:=Tryz.func401.trans (congrArg some ax)
 t3:=Tryz.underlying3
 a3:=Tryz.isAgg3
 z3:=Tryz.sizeOf3
 v3:=Tryz.zeroValue3
 t4:=Tryz.underlying4
 a4:=Tryz.isAgg4
 z4:=Tryz.sizeOf4
 v4:=Tryz.zeroValue4
 t9:=Tryz.underlying9
 a9:=Tryz.isAgg9
 z9:=Tryz.sizeOf9
 v9:=Tryz.zeroValue9
 t24:=Tryz.underlying54
 a24:=Tryz.isAgg54
 z24:=Tryz.sizeOf54
 v24:=Tryz.zeroValue54}
open Go.RowKit in
theorem Tryz.strings_CutPrefix(s p:ByteArray)(w:World):Calls Tryz.prog 349 #[.string s,.string p] w fun e w'=>e=.returned (.tuple #[.string ⟨(Lib.trimPrefix s.data.toList p.data.toList).toArray⟩,.bool (Lib.hasPrefix s.data.toList p.data.toList)])/\w'=w:=Any.strings_CutPrefix Tryz.aau s p w
def Tryz.aav:Go.Shelf.Ren:=⟨fun | 104=>348 | 211=>400 | 207=>410 | n=>n,fun | 9=>9 | 4=>4 | 24=>54 | 3=>3 | n=>n,fun | n=>n⟩
theorem Tryz.aaw:Go.Proofs.Lays.n104 Tryz.prog Tryz.aav:={
 mixed:=ax
 f104:=Tryz.func348.trans (congrArg some ax)
 f207:=Tryz.func410.trans (congrArg some ax)
 f211:=Tryz.func400.trans (congrArg some ax)
 t3:=Tryz.underlying3
 a3:=Tryz.isAgg3
 z3:=Tryz.sizeOf3
 v3:=Tryz.zeroValue3
 t4:=Tryz.underlying4
 a4:=Tryz.isAgg4
 z4:=Tryz.sizeOf4
 v4:=Tryz.zeroValue4
 t9:=Tryz.underlying9
 a9:=Tryz.isAgg9
 z9:=Tryz.sizeOf9
 v9:=Tryz.zeroValue9
 t24:=Tryz.underlying54
 a24:=Tryz.isAgg54
 z24:=Tryz.sizeOf54
 v24:=Tryz.zeroValue54}
open Go.RowKit in
theorem Tryz.strings_CutSuffix(s p:ByteArray)(w:World)(hs:s.size<=9223372036854775807):Calls Tryz.prog 348 #[.string s,.string p] w fun e w'=>e=.returned (.tuple #[.string ⟨(Lib.trimSuffix s.data.toList p.data.toList).toArray⟩,.bool (Lib.hasSuffix s.data.toList p.data.toList)])/\w'=w:=Any.strings_CutSuffix Tryz.aaw s p w hs
def Tryz.aax:Go.Shelf.Ren:=⟨fun | 122=>227 | 215=>313 | n=>n,fun | 3=>3 | 4=>4 | n=>n,fun | n=>n⟩
theorem Tryz.aay:Go.Proofs.Lays.n122 Tryz.prog Tryz.aax:={
 mixed:=ax
 f122:=Tryz.func227.trans (congrArg some ax)
 f215:=Tryz.func313.trans (congrArg some ax)
 t3:=Tryz.underlying3
 a3:=Tryz.isAgg3
 z3:=Tryz.sizeOf3
 v3:=Tryz.zeroValue3
 t4:=Tryz.underlying4
 a4:=Tryz.isAgg4
 z4:=Tryz.sizeOf4
 v4:=Tryz.zeroValue4}
open Go.RowKit in
theorem Tryz.cmp_Compare_int(x y:Int)(w:World):Calls Tryz.prog 227 #[.int .i64 x,.int .i64 y] w fun e w'=>e=.returned (.int .i64 (Lib.compareInt x y))/\w'=w:=Any.cmp_Compare_int Tryz.aay x y w
def Tryz.aaz:Go.Shelf.Ren:=⟨fun | 316=>130 | n=>n,fun | 9=>9 | 3=>3 | 4=>4 | 37=>122 | 0=>0 | 127=>247 | 5=>5 | n=>n,fun | n=>n⟩
theorem Tryz.aaA:Go.Proofs.LaysM.n316 Tryz.prog Tryz.aaz:={
 mixed:=ax
 f316:=Tryz.func130.trans (congrArg some ax)
 t0:=Tryz.underlying0
 a0:=Tryz.isAgg0
 z0:=Tryz.sizeOf0
 v0:=Tryz.zeroValue0
 t3:=Tryz.underlying3
 a3:=Tryz.isAgg3
 z3:=Tryz.sizeOf3
 v3:=Tryz.zeroValue3
 t4:=Tryz.underlying4
 a4:=Tryz.isAgg4
 z4:=Tryz.sizeOf4
 v4:=Tryz.zeroValue4
 t9:=Tryz.underlying9
 a9:=Tryz.isAgg9
 z9:=Tryz.sizeOf9
 v9:=Tryz.zeroValue9
 t37:=Tryz.underlying122
 a37:=Tryz.isAgg122
 z37:=Tryz.sizeOf122
 v37:=Tryz.zeroValue122
 t127:=Tryz.underlying247
 a127:=Tryz.isAgg247
 z127:=Tryz.sizeOf247
 v127:=Tryz.zeroValue247
 t5:=Tryz.underlying5
 a5:=Tryz.isAgg5
 z5:=Tryz.sizeOf5
 v5:=Tryz.zeroValue5
 i0:=ax
 i3:=ax
 i4:=ax
 i5:=ax
 i9:=ax
 i37:=ax
 i127:=by kernel_rfl}
open Go.RowKit in
theorem Tryz.stringslite_Clone(s:ByteArray)(w:World)(Bb:s.size<=281474976710656):Calls Tryz.prog 130 #[.string s] w fun e w'=>e=.returned (.string s)/\Below w.heap.size w w':=Any.stringslite_Clone Tryz.aaA s w Bb
def Tryz.aaB:Go.Shelf.Ren:=⟨fun | 99=>257 | 206=>347 | n=>n,fun | 9=>9 | 4=>4 | 3=>3 | n=>n,fun | n=>n⟩
theorem Tryz.aaC:Go.Proofs.Lays.n99 Tryz.prog Tryz.aaB:={
 mixed:=ax
 f99:=Tryz.func257.trans (congrArg some ax)
 f206:=Tryz.func347.trans (congrArg some ax)
 t3:=Tryz.underlying3
 a3:=Tryz.isAgg3
 z3:=Tryz.sizeOf3
 v3:=Tryz.zeroValue3
 t4:=Tryz.underlying4
 a4:=Tryz.isAgg4
 z4:=Tryz.sizeOf4
 v4:=Tryz.zeroValue4
 t9:=Tryz.underlying9
 a9:=Tryz.isAgg9
 z9:=Tryz.sizeOf9
 v9:=Tryz.zeroValue9}
open Go.RowKit Go.Lib in
theorem Tryz.strings_HasPrefix(s p:ByteArray)(w:World):Calls Tryz.prog 257 #[.string s,.string p] w fun e w'=>e=.returned (.bool (Lib.hasPrefix s.data.toList p.data.toList))/\w'=w:=Any.strings_HasPrefix Tryz.aaC s p w
def Tryz.aaD:Go.Shelf.Ren:=⟨fun | 147=>119 | 221=>178 | 268=>253 | 138=>254 | 143=>255 | 195=>343 | 197=>344 | 218=>345 | 219=>346 | 260=>396 | 217=>351 | 225=>397 | 224=>398 | 267=>399 | 266=>402 | 314=>409 | n=>n,fun | 9=>9 | 3=>3 | 31=>41 | 4=>4 | 0=>0 | 105=>457 | 21=>21 | 5=>5 | 46=>225 | 119=>500 | 139=>503 | 138=>502 | 146=>504 | 51=>364 | n=>n,fun | 1=>1 | 3=>4 | 4=>5 | n=>n⟩
theorem Tryz.aaE:Go.Proofs.Lays.n147 Tryz.prog Tryz.aaD:={
 mixed:=ax
 f138:=Tryz.func254.trans (congrArg some ax)
 f143:=Tryz.func255.trans (congrArg some ax)
 f147:=Tryz.func119.trans (congrArg some ax)
 f195:=Tryz.func343.trans (congrArg some ax)
 f197:=Tryz.func344.trans (congrArg some ax)
 f217:=Tryz.func351.trans (congrArg some ax)
 f218:=Tryz.func345.trans (congrArg some ax)
 f219:=Tryz.func346.trans (congrArg some ax)
 f221:=Tryz.func178.trans (congrArg some ax)
 f224:=Tryz.func398.trans (congrArg some ax)
 f225:=Tryz.func397.trans (congrArg some ax)
 f260:=Tryz.func396.trans (congrArg some ax)
 f266:=Tryz.func402.trans (congrArg some ax)
 f267:=Tryz.func399.trans (congrArg some ax)
 f268:=Tryz.func253.trans (congrArg some ax)
 f314:=Tryz.func409.trans (congrArg some ax)
 t0:=Tryz.underlying0
 a0:=Tryz.isAgg0
 z0:=Tryz.sizeOf0
 v0:=Tryz.zeroValue0
 t3:=Tryz.underlying3
 a3:=Tryz.isAgg3
 z3:=Tryz.sizeOf3
 v3:=Tryz.zeroValue3
 t4:=Tryz.underlying4
 a4:=Tryz.isAgg4
 z4:=Tryz.sizeOf4
 v4:=Tryz.zeroValue4
 t5:=Tryz.underlying5
 a5:=Tryz.isAgg5
 z5:=Tryz.sizeOf5
 v5:=Tryz.zeroValue5
 t9:=Tryz.underlying9
 a9:=Tryz.isAgg9
 z9:=Tryz.sizeOf9
 v9:=Tryz.zeroValue9
 t21:=Tryz.underlying21
 a21:=Tryz.isAgg21
 z21:=Tryz.sizeOf21
 v21:=Tryz.zeroValue21
 t31:=Tryz.underlying41
 a31:=Tryz.isAgg41
 z31:=Tryz.sizeOf41
 v31:=Tryz.zeroValue41
 t46:=Tryz.underlying225
 a46:=Tryz.isAgg225
 z46:=Tryz.sizeOf225
 v46:=Tryz.zeroValue225
 t51:=Tryz.underlying364
 a51:=Tryz.isAgg364
 z51:=Tryz.sizeOf364
 v51:=Tryz.zeroValue364
 t105:=Tryz.underlying457
 a105:=Tryz.isAgg457
 z105:=Tryz.sizeOf457
 v105:=Tryz.zeroValue457
 t119:=Tryz.underlying500
 a119:=Tryz.isAgg500
 z119:=Tryz.sizeOf500
 t138:=Tryz.underlying502
 a138:=Tryz.isAgg502
 z138:=Tryz.sizeOf502
 v138:=Tryz.zeroValue502
 t139:=Tryz.underlying503
 a139:=Tryz.isAgg503
 z139:=Tryz.sizeOf503
 v139:=Tryz.zeroValue503
 t146:=Tryz.underlying504
 a146:=Tryz.isAgg504
 z146:=Tryz.sizeOf504
 v146:=Tryz.zeroValue504
 g1:=ax
 g3:=ax
 g4:=by kernel_rfl}
open Go.RowKit Go.Lib in
theorem Tryz.strings_SplitN(s sep:ByteArray)(n:Nat)(m:Int)(w:World)(hs:s.size<4294967281)(hm:w.cell? ⟨1,0,none⟩=some (.int .i64 m))(h1:1<=sep.size)(ar:1<=n)(aaF:n<=9223372036854775807):Calls Tryz.prog 119 #[.string s,.string sep,.int .i64 n] w fun e w'=>e=.returned (.slice (some ⟨w.heap.size,0,none⟩) (Lib.splitB sep 0 (min n (s.size+1)-1) s).length (min n (s.size+1)))/\w'=w.alloc (.cells (Lib.cellsOf (Lib.splitB sep 0 (min n (s.size+1)-1) s) (min n (s.size+1))) 9):=Any.strings_SplitN Tryz.aaE ax s sep n m w hs hm h1 ar aaF
end Go.Proofs
