import Derived.Test.YtkpddlaljibdoaaGreatDoorB00
import Derived.Shelf.Strings.Builder1
import Derived.Shelf.Small.Strs
import Derived.Shelf.Small.Wraps
import Derived.Shelf.Strings.BuilderF
import Derived.Shelf.Strings.BuilderK
import Derived.Shelf.LaysM
import Derived.Shelf.Strconv.Clone
import Derived.Shelf.Strings.Search1
import Derived.Shelf.Strings.Search2
import Derived.Shelf.Strings.Search3
import Derived.Shelf.Strings.Count
import Derived.Shelf.Strings.Shaped
import Derived.Shelf.Strings.Prefix
import Derived.Shelf.Strings.Split
import Derived.Shelf.Unicode.DecodeSlow
import Derived.Test.YtkpddlaljibdoaaGreatDoorProg
set_option maxHeartbeats 20000000
set_option maxRecDepth 100000
set_option linter.all false
namespace Go.Proofs
open Go.Shelf
def Tryz.QC:Go.Shelf.Ren:=⟨fun | 169=>252 | n=>n,fun | 70=>310 | 9=>9 | 0=>0 | 72=>312 | 37=>86 | 127=>236 | 3=>3 | 5=>5 | n=>n,fun | n=>n⟩
def Tryz.aao:Go.Proofs.Lays.n169 Tryz.prog Tryz.QC:={
 mixed:=ax
 f169:=Tryz.func252.trans (congrArg some ax)
 t0:=Tryz.underlying0
 a0:=Tryz.isAgg0
 z0:=Tryz.sizeOf0
 v0:=Tryz.zeroValue0
 t3:=Tryz.underlying3
 a3:=Tryz.isAgg3
 z3:=Tryz.sizeOf3
 v3:=Tryz.zeroValue3
 t9:=Tryz.underlying9
 a9:=Tryz.isAgg9
 z9:=Tryz.sizeOf9
 v9:=Tryz.zeroValue9
 t37:=Tryz.underlying86
 a37:=Tryz.isAgg86
 z37:=Tryz.sizeOf86
 v37:=Tryz.zeroValue86
 t70:=Tryz.underlying310
 a70:=Tryz.isAgg310
 z70:=Tryz.sizeOf310
 v70:=Tryz.zeroValue310
 t72:=Tryz.underlying312
 a72:=Tryz.isAgg312
 z72:=Tryz.sizeOf312
 v72:=Tryz.zeroValue312
 t127:=Tryz.underlying236
 a127:=Tryz.isAgg236
 z127:=Tryz.sizeOf236
 v127:=Tryz.zeroValue236}
def Tryz.Dd:Builder.Extra Tryz.prog Tryz.QC:={
 sizeBuilder:=ax
 liesBuilder:=ax
 t5:=Tryz.underlying5
 a5:=Tryz.isAgg5
 z5:=Tryz.sizeOf5
 v5:=Tryz.zeroValue5
 infoByte:=ax
 cellsByte:=ax
 sizeByte:=ax
 neB5:=by decide}
open Go.RowKit in
def Tryz.Builder_String_any(bB b:Nat)(l:List UInt8)(w:World)(h:Lib.IsBuilder 312 5 bB b (Lib.byteCells l) w)(Kd:bB<=w.heap.size):Calls Tryz.prog 252 #[.pointer (some ⟨b,0,none⟩)] w fun e w'=>e=.returned (.string ⟨l.toArray⟩)/\Below bB w w':=Any.Builder_String_any Tryz.aao Tryz.Dd bB b l w h Kd
def Tryz.aap:Go.Shelf.Ren:=⟨fun | 106=>146 | 213=>207 | 265=>266 | n=>n,fun | 9=>9 | 3=>3 | n=>n,fun | n=>n⟩
def Tryz.aaq:Go.Proofs.Lays.n106 Tryz.prog Tryz.aap:={
 mixed:=ax
 f106:=Tryz.func146.trans (congrArg some ax)
 f213:=Tryz.func207.trans (congrArg some ax)
 f265:=Tryz.func266.trans (congrArg some ax)
 t3:=Tryz.underlying3
 a3:=Tryz.isAgg3
 z3:=Tryz.sizeOf3
 v3:=Tryz.zeroValue3
 t9:=Tryz.underlying9
 a9:=Tryz.isAgg9
 z9:=Tryz.sizeOf9
 v9:=Tryz.zeroValue9}
open Go.RowKit in
def Tryz.strings_Compare(a b:ByteArray)(w:World):Calls Tryz.prog 146 #[.string a,.string b] w fun e w'=>e=.returned (.int .i64 (Lib.compareBytes a.data.toList b.data.toList))/\w'=w:=Any.strings_Compare Tryz.aaq a b w
def Tryz.aar:Go.Shelf.Ren:=⟨fun | 137=>282 | 217=>275 | 266=>297 | n=>n,fun | 9=>9 | 5=>5 | 3=>3 | n=>n,fun | n=>n⟩
def Tryz.aas:Go.Proofs.Lays.n137 Tryz.prog Tryz.aar:={
 mixed:=ax
 f137:=Tryz.func282.trans (congrArg some ax)
 f217:=Tryz.func275.trans (congrArg some ax)
 f266:=Tryz.func297.trans (congrArg some ax)
 t3:=Tryz.underlying3
 a3:=Tryz.isAgg3
 z3:=Tryz.sizeOf3
 v3:=Tryz.zeroValue3
 t5:=Tryz.underlying5
 a5:=Tryz.isAgg5
 z5:=Tryz.sizeOf5
 v5:=Tryz.zeroValue5
 t9:=Tryz.underlying9
 a9:=Tryz.isAgg9
 z9:=Tryz.sizeOf9
 v9:=Tryz.zeroValue9}
open Go.RowKit in
def Tryz.strings_IndexByte(s:ByteArray)(c:Int)(w:World):Calls Tryz.prog 282 #[.string s,.int .u8 c] w fun e w'=>e=.returned (.int .i64 (Lib.indexByte s.data.toList c.toNat.toUInt8))/\w'=w:=Any.strings_IndexByte Tryz.aas s c w
def Tryz.aat:Go.Shelf.Ren:=⟨fun | 103=>224 | 210=>280 | 206=>222 | n=>n,fun | 9=>9 | 4=>4 | 24=>288 | 3=>3 | n=>n,fun | n=>n⟩
def Tryz.aau:Go.Proofs.Lays.n103 Tryz.prog Tryz.aat:={
 mixed:=ax
 f103:=Tryz.func224.trans (congrArg some ax)
 f206:=Tryz.func222.trans (congrArg some ax)
 f210:=Tryz.func280.trans (congrArg some ax)
 t3:=Tryz.underlying3
 a3:=Tryz.isAgg3
 z3:=Tryz.sizeOf3
 v3:=Tryz.zeroValue3
 t4:=Tryz.underlying4
 a4:=Tryz.isAgg4
 z4:=Tryz.sizeOf4
 v4:=Tryz.zeroValue4
 t9:=Tryz.underlying9
 a9:=Tryz.isAgg9
 z9:=Tryz.sizeOf9
 v9:=Tryz.zeroValue9
 t24:=Tryz.underlying288
 a24:=Tryz.isAgg288
 z24:=Tryz.sizeOf288
 v24:=Tryz.zeroValue288}
open Go.RowKit in
def Tryz.strings_CutPrefix(s p:ByteArray)(w:World):Calls Tryz.prog 224 #[.string s,.string p] w fun e w'=>e=.returned (.tuple #[.string ⟨(Lib.trimPrefix s.data.toList p.data.toList).toArray⟩,.bool (Lib.hasPrefix s.data.toList p.data.toList)])/\w'=w:=Any.strings_CutPrefix Tryz.aau s p w
def Tryz.aav:Go.Shelf.Ren:=⟨fun | 104=>223 | 211=>279 | 207=>299 | n=>n,fun | 9=>9 | 4=>4 | 24=>288 | 3=>3 | n=>n,fun | n=>n⟩
def Tryz.aaw:Go.Proofs.Lays.n104 Tryz.prog Tryz.aav:={
 mixed:=ax
 f104:=Tryz.func223.trans (congrArg some ax)
 f207:=Tryz.func299.trans (congrArg some ax)
 f211:=Tryz.func279.trans (congrArg some ax)
 t3:=Tryz.underlying3
 a3:=Tryz.isAgg3
 z3:=Tryz.sizeOf3
 v3:=Tryz.zeroValue3
 t4:=Tryz.underlying4
 a4:=Tryz.isAgg4
 z4:=Tryz.sizeOf4
 v4:=Tryz.zeroValue4
 t9:=Tryz.underlying9
 a9:=Tryz.isAgg9
 z9:=Tryz.sizeOf9
 v9:=Tryz.zeroValue9
 t24:=Tryz.underlying288
 a24:=Tryz.isAgg288
 z24:=Tryz.sizeOf288
 v24:=Tryz.zeroValue288}
open Go.RowKit in
def Tryz.strings_CutSuffix(s p:ByteArray)(w:World)(hs:s.size<=9223372036854775807):Calls Tryz.prog 223 #[.string s,.string p] w fun e w'=>e=.returned (.tuple #[.string ⟨(Lib.trimSuffix s.data.toList p.data.toList).toArray⟩,.bool (Lib.hasSuffix s.data.toList p.data.toList)])/\w'=w:=Any.strings_CutSuffix Tryz.aaw s p w hs
def Tryz.aax:Go.Shelf.Ren:=⟨fun | 122=>147 | 215=>208 | n=>n,fun | 3=>3 | 4=>4 | n=>n,fun | n=>n⟩
def Tryz.aay:Go.Proofs.Lays.n122 Tryz.prog Tryz.aax:={
 mixed:=ax
 f122:=Tryz.func147.trans (congrArg some ax)
 f215:=Tryz.func208.trans (congrArg some ax)
 t3:=Tryz.underlying3
 a3:=Tryz.isAgg3
 z3:=Tryz.sizeOf3
 v3:=Tryz.zeroValue3
 t4:=Tryz.underlying4
 a4:=Tryz.isAgg4
 z4:=Tryz.sizeOf4
 v4:=Tryz.zeroValue4}
open Go.RowKit in
def Tryz.cmp_Compare_int(x y:Int)(w:World):Calls Tryz.prog 147 #[.int .i64 x,.int .i64 y] w fun e w'=>e=.returned (.int .i64 (Lib.compareInt x y))/\w'=w:=Any.cmp_Compare_int Tryz.aay x y w
def Tryz.aaz:Go.Shelf.Ren:=⟨fun | 316=>100 | n=>n,fun | 9=>9 | 3=>3 | 4=>4 | 37=>86 | 0=>0 | 127=>236 | 5=>5 | n=>n,fun | n=>n⟩
def Tryz.aaA:Go.Proofs.LaysM.n316 Tryz.prog Tryz.aaz:={
 mixed:=ax
 f316:=Tryz.func100.trans (congrArg some ax)
 t0:=Tryz.underlying0
 a0:=Tryz.isAgg0
 z0:=Tryz.sizeOf0
 v0:=Tryz.zeroValue0
 t3:=Tryz.underlying3
 a3:=Tryz.isAgg3
 z3:=Tryz.sizeOf3
 v3:=Tryz.zeroValue3
 t4:=Tryz.underlying4
 a4:=Tryz.isAgg4
 z4:=Tryz.sizeOf4
 v4:=Tryz.zeroValue4
 t9:=Tryz.underlying9
 a9:=Tryz.isAgg9
 z9:=Tryz.sizeOf9
 v9:=Tryz.zeroValue9
 t37:=Tryz.underlying86
 a37:=Tryz.isAgg86
 z37:=Tryz.sizeOf86
 v37:=Tryz.zeroValue86
 t127:=Tryz.underlying236
 a127:=Tryz.isAgg236
 z127:=Tryz.sizeOf236
 v127:=Tryz.zeroValue236
 t5:=Tryz.underlying5
 a5:=Tryz.isAgg5
 z5:=Tryz.sizeOf5
 v5:=Tryz.zeroValue5
 i0:=ax
 i3:=ax
 i4:=ax
 i5:=ax
 i9:=ax
 i37:=ax
 i127:=by kernel_rfl}
open Go.RowKit in
def Tryz.stringslite_Clone(s:ByteArray)(w:World)(Bb:s.size<=281474976710656):Calls Tryz.prog 100 #[.string s] w fun e w'=>e=.returned (.string s)/\Below w.heap.size w w':=Any.stringslite_Clone Tryz.aaA s w Bb
def Tryz.aaB:Go.Shelf.Ren:=⟨fun | 99=>155 | 206=>222 | n=>n,fun | 9=>9 | 4=>4 | 3=>3 | n=>n,fun | n=>n⟩
def Tryz.aaC:Go.Proofs.Lays.n99 Tryz.prog Tryz.aaB:={
 mixed:=ax
 f99:=Tryz.func155.trans (congrArg some ax)
 f206:=Tryz.func222.trans (congrArg some ax)
 t3:=Tryz.underlying3
 a3:=Tryz.isAgg3
 z3:=Tryz.sizeOf3
 v3:=Tryz.zeroValue3
 t4:=Tryz.underlying4
 a4:=Tryz.isAgg4
 z4:=Tryz.sizeOf4
 v4:=Tryz.zeroValue4
 t9:=Tryz.underlying9
 a9:=Tryz.isAgg9
 z9:=Tryz.sizeOf9
 v9:=Tryz.zeroValue9}
open Go.RowKit Go.Lib in
def Tryz.strings_HasPrefix(s p:ByteArray)(w:World):Calls Tryz.prog 155 #[.string s,.string p] w fun e w'=>e=.returned (.bool (Lib.hasPrefix s.data.toList p.data.toList))/\w'=w:=Any.strings_HasPrefix Tryz.aaC s p w
def Tryz.aaD:Go.Shelf.Ren:=⟨fun | 147=>70 | 221=>109 | 268=>151 | 138=>152 | 143=>153 | 195=>218 | 197=>219 | 218=>220 | 219=>221 | 260=>274 | 217=>275 | 225=>276 | 224=>277 | 267=>278 | 266=>297 | 314=>298 | n=>n,fun | 9=>9 | 3=>3 | 31=>23 | 4=>4 | 0=>0 | 105=>285 | 21=>21 | 5=>5 | 46=>178 | 119=>347 | 139=>350 | 138=>349 | 146=>351 | 51=>229 | n=>n,fun | 1=>1 | 3=>3 | 4=>4 | n=>n⟩
def Tryz.aaE:Go.Proofs.Lays.n147 Tryz.prog Tryz.aaD:={
 mixed:=ax
 f138:=Tryz.func152.trans (congrArg some ax)
 f143:=Tryz.func153.trans (congrArg some ax)
 f147:=Tryz.func70.trans (congrArg some ax)
 f195:=Tryz.func218.trans (congrArg some ax)
 f197:=Tryz.func219.trans (congrArg some ax)
 f217:=Tryz.func275.trans (congrArg some ax)
 f218:=Tryz.func220.trans (congrArg some ax)
 f219:=Tryz.func221.trans (congrArg some ax)
 f221:=Tryz.func109.trans (congrArg some ax)
 f224:=Tryz.func277.trans (congrArg some ax)
 f225:=Tryz.func276.trans (congrArg some ax)
 f260:=Tryz.func274.trans (congrArg some ax)
 f266:=Tryz.func297.trans (congrArg some ax)
 f267:=Tryz.func278.trans (congrArg some ax)
 f268:=Tryz.func151.trans (congrArg some ax)
 f314:=Tryz.func298.trans (congrArg some ax)
 t0:=Tryz.underlying0
 a0:=Tryz.isAgg0
 z0:=Tryz.sizeOf0
 v0:=Tryz.zeroValue0
 t3:=Tryz.underlying3
 a3:=Tryz.isAgg3
 z3:=Tryz.sizeOf3
 v3:=Tryz.zeroValue3
 t4:=Tryz.underlying4
 a4:=Tryz.isAgg4
 z4:=Tryz.sizeOf4
 v4:=Tryz.zeroValue4
 t5:=Tryz.underlying5
 a5:=Tryz.isAgg5
 z5:=Tryz.sizeOf5
 v5:=Tryz.zeroValue5
 t9:=Tryz.underlying9
 a9:=Tryz.isAgg9
 z9:=Tryz.sizeOf9
 v9:=Tryz.zeroValue9
 t21:=Tryz.underlying21
 a21:=Tryz.isAgg21
 z21:=Tryz.sizeOf21
 v21:=Tryz.zeroValue21
 t31:=Tryz.underlying23
 a31:=Tryz.isAgg23
 z31:=Tryz.sizeOf23
 v31:=Tryz.zeroValue23
 t46:=Tryz.underlying178
 a46:=Tryz.isAgg178
 z46:=Tryz.sizeOf178
 v46:=Tryz.zeroValue178
 t51:=Tryz.underlying229
 a51:=Tryz.isAgg229
 z51:=Tryz.sizeOf229
 v51:=Tryz.zeroValue229
 t105:=Tryz.underlying285
 a105:=Tryz.isAgg285
 z105:=Tryz.sizeOf285
 v105:=Tryz.zeroValue285
 t119:=Tryz.underlying347
 a119:=Tryz.isAgg347
 z119:=Tryz.sizeOf347
 t138:=Tryz.underlying349
 a138:=Tryz.isAgg349
 z138:=Tryz.sizeOf349
 v138:=Tryz.zeroValue349
 t139:=Tryz.underlying350
 a139:=Tryz.isAgg350
 z139:=Tryz.sizeOf350
 v139:=Tryz.zeroValue350
 t146:=Tryz.underlying351
 a146:=Tryz.isAgg351
 z146:=Tryz.sizeOf351
 v146:=Tryz.zeroValue351
 g1:=ax
 g3:=ax
 g4:=by kernel_rfl}
open Go.RowKit Go.Lib in
def Tryz.strings_SplitN(s sep:ByteArray)(n:Nat)(m:Int)(w:World)(hs:s.size<4294967281)(hm:w.cell? ⟨1,0,none⟩=some (.int .i64 m))(h1:1<=sep.size)(ar:1<=n)(aaF:n<=9223372036854775807):Calls Tryz.prog 70 #[.string s,.string sep,.int .i64 n] w fun e w'=>e=.returned (.slice (some ⟨w.heap.size,0,none⟩) (Lib.splitB sep 0 (min n (s.size+1)-1) s).length (min n (s.size+1)))/\w'=w.alloc (.cells (Lib.cellsOf (Lib.splitB sep 0 (min n (s.size+1)-1) s) (min n (s.size+1))) 9):=Any.strings_SplitN Tryz.aaE ax s sep n m w hs hm h1 ar aaF
end Go.Proofs
