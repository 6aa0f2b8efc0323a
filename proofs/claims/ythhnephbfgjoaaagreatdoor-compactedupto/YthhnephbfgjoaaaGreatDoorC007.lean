import Derived.Test.YthhnephbfgjoaaaGreatDoorC00
import Derived.Shelf.Small.Strs
import Derived.Shelf.Small.Wraps
import Derived.Shelf.Strings.BuilderK
import Derived.Shelf.Utf8.RuneCount
import Derived.Shelf.Strconv.Clone
import Derived.Shelf.Strings.Shaped
import Derived.Shelf.Strings.SplitShaped
import Derived.Shelf.Strings.Explode
import Derived.Shelf.Unicode.DecodeAny
import Derived.Shelf.Slices.SearchI
set_option maxHeartbeats 0
set_option maxRecDepth 100000
set_option linter.all false
namespace Go.Proofs
open Go.Shelf
def Tryz.QC:Go.Shelf.Ren:=⟨fun | 169=>257 | n=>n,fun | 70=>308 | 9=>9 | 0=>0 | 72=>310 | 37=>92 | 127=>196 | 3=>3 | 5=>5 | n=>n,fun | n=>n⟩
def Tryz.aao:Go.Proofs.Lays.n169 Tryz.prog Tryz.QC:={
 mixed:=ax
 f169:=Tryz.func257.trans (congrArg some ax)
 t0:=Tryz.underlying0
 a0:=Tryz.isAgg0
 z0:=Tryz.sizeOf0
 v0:=Tryz.zeroValue0
 t3:=Tryz.underlying3
 a3:=Tryz.isAgg3
 z3:=Tryz.sizeOf3
 v3:=Tryz.zeroValue3
 t9:=Tryz.underlying9
 a9:=Tryz.isAgg9
 z9:=Tryz.sizeOf9
 v9:=Tryz.zeroValue9
 t37:=Tryz.underlying92
 a37:=Tryz.isAgg92
 z37:=Tryz.sizeOf92
 v37:=Tryz.zeroValue92
 t70:=Tryz.underlying308
 a70:=Tryz.isAgg308
 z70:=Tryz.sizeOf308
 v70:=Tryz.zeroValue308
 t72:=Tryz.underlying310
 a72:=Tryz.isAgg310
 z72:=Tryz.sizeOf310
 v72:=Tryz.zeroValue310
 t127:=Tryz.underlying196
 a127:=Tryz.isAgg196
 z127:=Tryz.sizeOf196
 v127:=Tryz.zeroValue196}
def Tryz.Dd:Builder.Extra Tryz.prog Tryz.QC:={
 sizeBuilder:=ax
 liesBuilder:=ax
 t5:=Tryz.underlying5
 a5:=Tryz.isAgg5
 z5:=Tryz.sizeOf5
 v5:=Tryz.zeroValue5
 infoByte:=ax
 cellsByte:=ax
 sizeByte:=ax
 neB5:=by decide}
open Go.RowKit in
def Tryz.Builder_String_any(bB b:Nat)(l:List UInt8)(w:World)(h:Lib.IsBuilder 310 5 bB b (Lib.byteCells l) w)(Kd:bB<=w.heap.size):Calls Tryz.prog 257 #[.pointer (some ⟨b,0,none⟩)] w fun e w'=>e=.returned (.string ⟨l.toArray⟩)/\Below bB w w':=Any.Builder_String_any Tryz.aao Tryz.Dd bB b l w h Kd
def Tryz.aap:Go.Shelf.Ren:=⟨fun | 106=>151 | 213=>213 | 265=>271 | n=>n,fun | 9=>9 | 3=>3 | n=>n,fun | n=>n⟩
def Tryz.aaq:Go.Proofs.Lays.n106 Tryz.prog Tryz.aap:={
 mixed:=ax
 f106:=Tryz.func151.trans (congrArg some ax)
 f213:=Tryz.func213.trans (congrArg some ax)
 f265:=Tryz.func271.trans (congrArg some ax)
 t3:=Tryz.underlying3
 a3:=Tryz.isAgg3
 z3:=Tryz.sizeOf3
 v3:=Tryz.zeroValue3
 t9:=Tryz.underlying9
 a9:=Tryz.isAgg9
 z9:=Tryz.sizeOf9
 v9:=Tryz.zeroValue9}
open Go.RowKit in
def Tryz.strings_Compare(a b:ByteArray)(w:World):Calls Tryz.prog 151 #[.string a,.string b] w fun e w'=>e=.returned (.int .i64 (Lib.compareBytes a.data.toList b.data.toList))/\w'=w:=Any.strings_Compare Tryz.aaq a b w
def Tryz.aar:Go.Shelf.Ren:=⟨fun | 137=>283 | 217=>225 | 266=>279 | n=>n,fun | 9=>9 | 5=>5 | 3=>3 | n=>n,fun | n=>n⟩
def Tryz.aas:Go.Proofs.Lays.n137 Tryz.prog Tryz.aar:={
 mixed:=ax
 f137:=Tryz.func283.trans (congrArg some ax)
 f217:=Tryz.func225.trans (congrArg some ax)
 f266:=Tryz.func279.trans (congrArg some ax)
 t3:=Tryz.underlying3
 a3:=Tryz.isAgg3
 z3:=Tryz.sizeOf3
 v3:=Tryz.zeroValue3
 t5:=Tryz.underlying5
 a5:=Tryz.isAgg5
 z5:=Tryz.sizeOf5
 v5:=Tryz.zeroValue5
 t9:=Tryz.underlying9
 a9:=Tryz.isAgg9
 z9:=Tryz.sizeOf9
 v9:=Tryz.zeroValue9}
open Go.RowKit in
def Tryz.strings_IndexByte(s:ByteArray)(c:Int)(w:World):Calls Tryz.prog 283 #[.string s,.int .u8 c] w fun e w'=>e=.returned (.int .i64 (Lib.indexByte s.data.toList c.toNat.toUInt8))/\w'=w:=Any.strings_IndexByte Tryz.aas s c w
def Tryz.aat:Go.Shelf.Ren:=⟨fun | 103=>162 | 210=>230 | 206=>160 | n=>n,fun | 9=>9 | 4=>4 | 24=>243 | 3=>3 | n=>n,fun | n=>n⟩
def Tryz.aau:Go.Proofs.Lays.n103 Tryz.prog Tryz.aat:={
 mixed:=ax
 f103:=Tryz.func162.trans (congrArg some ax)
 f206:=Tryz.func160.trans (congrArg some ax)
 f210:=Tryz.func230.trans (congrArg some ax)
 t3:=Tryz.underlying3
 a3:=Tryz.isAgg3
 z3:=Tryz.sizeOf3
 v3:=Tryz.zeroValue3
 t4:=Tryz.underlying4
 a4:=Tryz.isAgg4
 z4:=Tryz.sizeOf4
 v4:=Tryz.zeroValue4
 t9:=Tryz.underlying9
 a9:=Tryz.isAgg9
 z9:=Tryz.sizeOf9
 v9:=Tryz.zeroValue9
 t24:=Tryz.underlying243
 a24:=Tryz.isAgg243
 z24:=Tryz.sizeOf243
 v24:=Tryz.zeroValue243}
open Go.RowKit in
def Tryz.strings_CutPrefix(s p:ByteArray)(w:World):Calls Tryz.prog 162 #[.string s,.string p] w fun e w'=>e=.returned (.tuple #[.string ⟨(Lib.trimPrefix s.data.toList p.data.toList).toArray⟩,.bool (Lib.hasPrefix s.data.toList p.data.toList)])/\w'=w:=Any.strings_CutPrefix Tryz.aau s p w
def Tryz.aav:Go.Shelf.Ren:=⟨fun | 104=>161 | 211=>229 | 207=>281 | n=>n,fun | 9=>9 | 4=>4 | 24=>243 | 3=>3 | n=>n,fun | n=>n⟩
def Tryz.aaw:Go.Proofs.Lays.n104 Tryz.prog Tryz.aav:={
 mixed:=ax
 f104:=Tryz.func161.trans (congrArg some ax)
 f207:=Tryz.func281.trans (congrArg some ax)
 f211:=Tryz.func229.trans (congrArg some ax)
 t3:=Tryz.underlying3
 a3:=Tryz.isAgg3
 z3:=Tryz.sizeOf3
 v3:=Tryz.zeroValue3
 t4:=Tryz.underlying4
 a4:=Tryz.isAgg4
 z4:=Tryz.sizeOf4
 v4:=Tryz.zeroValue4
 t9:=Tryz.underlying9
 a9:=Tryz.isAgg9
 z9:=Tryz.sizeOf9
 v9:=Tryz.zeroValue9
 t24:=Tryz.underlying243
 a24:=Tryz.isAgg243
 z24:=Tryz.sizeOf243
 v24:=Tryz.zeroValue243}
open Go.RowKit in
def Tryz.strings_CutSuffix(s p:ByteArray)(w:World)(hs:s.size<=9223372036854775807):Calls Tryz.prog 161 #[.string s,.string p] w fun e w'=>e=.returned (.tuple #[.string ⟨(Lib.trimSuffix s.data.toList p.data.toList).toArray⟩,.bool (Lib.hasSuffix s.data.toList p.data.toList)])/\w'=w:=Any.strings_CutSuffix Tryz.aaw s p w hs
def Tryz.aax:Go.Shelf.Ren:=⟨fun | 122=>152 | 215=>214 | n=>n,fun | 3=>3 | 4=>4 | n=>n,fun | n=>n⟩
def Tryz.aay:Go.Proofs.Lays.n122 Tryz.prog Tryz.aax:={
 mixed:=ax
 f122:=Tryz.func152.trans (congrArg some ax)
 f215:=Tryz.func214.trans (congrArg some ax)
 t3:=Tryz.underlying3
 a3:=Tryz.isAgg3
 z3:=Tryz.sizeOf3
 v3:=Tryz.zeroValue3
 t4:=Tryz.underlying4
 a4:=Tryz.isAgg4
 z4:=Tryz.sizeOf4
 v4:=Tryz.zeroValue4}
open Go.RowKit in
def Tryz.cmp_Compare_int(x y:Int)(w:World):Calls Tryz.prog 152 #[.int .i64 x,.int .i64 y] w fun e w'=>e=.returned (.int .i64 (Lib.compareInt x y))/\w'=w:=Any.cmp_Compare_int Tryz.aay x y w
def Tryz.aaz:Go.Shelf.Ren:=⟨fun | 316=>82 | n=>n,fun | 9=>9 | 3=>3 | 4=>4 | 37=>92 | 0=>0 | 127=>196 | 5=>5 | n=>n,fun | n=>n⟩
def Tryz.aaA:Go.Proofs.LaysM.n316 Tryz.prog Tryz.aaz:={
 mixed:=ax
 f316:=Tryz.func82.trans (congrArg some ax)
 t0:=Tryz.underlying0
 a0:=Tryz.isAgg0
 z0:=Tryz.sizeOf0
 v0:=Tryz.zeroValue0
 t3:=Tryz.underlying3
 a3:=Tryz.isAgg3
 z3:=Tryz.sizeOf3
 v3:=Tryz.zeroValue3
 t4:=Tryz.underlying4
 a4:=Tryz.isAgg4
 z4:=Tryz.sizeOf4
 v4:=Tryz.zeroValue4
 t9:=Tryz.underlying9
 a9:=Tryz.isAgg9
 z9:=Tryz.sizeOf9
 v9:=Tryz.zeroValue9
 t37:=Tryz.underlying92
 a37:=Tryz.isAgg92
 z37:=Tryz.sizeOf92
 v37:=Tryz.zeroValue92
 t127:=Tryz.underlying196
 a127:=Tryz.isAgg196
 z127:=Tryz.sizeOf196
 v127:=Tryz.zeroValue196
 t5:=Tryz.underlying5
 a5:=Tryz.isAgg5
 z5:=Tryz.sizeOf5
 v5:=Tryz.zeroValue5
 i0:=ax
 i3:=ax
 i4:=ax
 i5:=ax
 i9:=ax
 i37:=ax
 i127:=by kernel_rfl}
open Go.RowKit in
def Tryz.stringslite_Clone(s:ByteArray)(w:World)(Bb:s.size<=281474976710656):Calls Tryz.prog 82 #[.string s] w fun e w'=>e=.returned (.string s)/\Below w.heap.size w w':=Any.stringslite_Clone Tryz.aaA s w Bb
def Tryz.aaB:Go.Shelf.Ren:=⟨fun | 99=>114 | 206=>160 | n=>n,fun | 9=>9 | 4=>4 | 3=>3 | n=>n,fun | n=>n⟩
def Tryz.aaC:Go.Proofs.Lays.n99 Tryz.prog Tryz.aaB:={
 mixed:=ax
 f99:=Tryz.func114.trans (congrArg some ax)
 f206:=Tryz.func160.trans (congrArg some ax)
 t3:=Tryz.underlying3
 a3:=Tryz.isAgg3
 z3:=Tryz.sizeOf3
 v3:=Tryz.zeroValue3
 t4:=Tryz.underlying4
 a4:=Tryz.isAgg4
 z4:=Tryz.sizeOf4
 v4:=Tryz.zeroValue4
 t9:=Tryz.underlying9
 a9:=Tryz.isAgg9
 z9:=Tryz.sizeOf9
 v9:=Tryz.zeroValue9}
open Go.RowKit Go.Lib in
def Tryz.strings_HasPrefix(s p:ByteArray)(w:World):Calls Tryz.prog 114 #[.string s,.string p] w fun e w'=>e=.returned (.bool (Lib.hasPrefix s.data.toList p.data.toList))/\w'=w:=Any.strings_HasPrefix Tryz.aaC s p w
def Tryz.aaD:Go.Shelf.Ren:=⟨fun | 147=>47 | 221=>80 | 268=>110 | 138=>111 | 143=>112 | 195=>156 | 197=>157 | 218=>158 | 219=>159 | 260=>224 | 217=>225 | 225=>226 | 224=>227 | 267=>228 | 266=>279 | 314=>280 | n=>n,fun | 9=>9 | 3=>3 | 31=>37 | 4=>4 | 0=>0 | 105=>240 | 21=>21 | 5=>5 | 46=>181 | 119=>335 | 139=>338 | 138=>337 | 146=>339 | 51=>230 | n=>n,fun | 1=>1 | 3=>2 | 4=>3 | n=>n⟩
def Tryz.aaE:Go.Proofs.Lays.n147 Tryz.prog Tryz.aaD:={
 mixed:=ax
 f138:=Tryz.func111.trans (congrArg some ax)
 f143:=Tryz.func112.trans (congrArg some ax)
 f147:=Tryz.func47.trans (congrArg some ax)
 f195:=Tryz.func156.trans (congrArg some ax)
 f197:=Tryz.func157.trans (congrArg some ax)
 f217:=Tryz.func225.trans (congrArg some ax)
 f218:=Tryz.func158.trans (congrArg some ax)
 f219:=Tryz.func159.trans (congrArg some ax)
 f221:=Tryz.func80.trans (congrArg some ax)
 f224:=Tryz.func227.trans (congrArg some ax)
 f225:=Tryz.func226.trans (congrArg some ax)
 f260:=Tryz.func224.trans (congrArg some ax)
 f266:=Tryz.func279.trans (congrArg some ax)
 f267:=Tryz.func228.trans (congrArg some ax)
 f268:=Tryz.func110.trans (congrArg some ax)
 f314:=Tryz.func280.trans (congrArg some ax)
 t0:=Tryz.underlying0
 a0:=Tryz.isAgg0
 z0:=Tryz.sizeOf0
 v0:=Tryz.zeroValue0
 t3:=Tryz.underlying3
 a3:=Tryz.isAgg3
 z3:=Tryz.sizeOf3
 v3:=Tryz.zeroValue3
 t4:=Tryz.underlying4
 a4:=Tryz.isAgg4
 z4:=Tryz.sizeOf4
 v4:=Tryz.zeroValue4
 t5:=Tryz.underlying5
 a5:=Tryz.isAgg5
 z5:=Tryz.sizeOf5
 v5:=Tryz.zeroValue5
 t9:=Tryz.underlying9
 a9:=Tryz.isAgg9
 z9:=Tryz.sizeOf9
 v9:=Tryz.zeroValue9
 t21:=Tryz.underlying21
 a21:=Tryz.isAgg21
 z21:=Tryz.sizeOf21
 v21:=Tryz.zeroValue21
 t31:=Tryz.underlying37
 a31:=Tryz.isAgg37
 z31:=Tryz.sizeOf37
 v31:=Tryz.zeroValue37
 t46:=Tryz.underlying181
 a46:=Tryz.isAgg181
 z46:=Tryz.sizeOf181
 v46:=Tryz.zeroValue181
 t51:=Tryz.underlying230
 a51:=Tryz.isAgg230
 z51:=Tryz.sizeOf230
 v51:=Tryz.zeroValue230
 t105:=Tryz.underlying240
 a105:=Tryz.isAgg240
 z105:=Tryz.sizeOf240
 v105:=Tryz.zeroValue240
 t119:=Tryz.underlying335
 a119:=Tryz.isAgg335
 z119:=Tryz.sizeOf335
 t138:=Tryz.underlying337
 a138:=Tryz.isAgg337
 z138:=Tryz.sizeOf337
 v138:=Tryz.zeroValue337
 t139:=Tryz.underlying338
 a139:=Tryz.isAgg338
 z139:=Tryz.sizeOf338
 v139:=Tryz.zeroValue338
 t146:=Tryz.underlying339
 a146:=Tryz.isAgg339
 z146:=Tryz.sizeOf339
 v146:=Tryz.zeroValue339
 g1:=ax
 g3:=ax
 g4:=by kernel_rfl}
open Go.RowKit Go.Lib in
def Tryz.strings_SplitN(s sep:ByteArray)(n:Nat)(m:Int)(w:World)(hs:s.size<4294967281)(hm:w.cell? ⟨1,0,none⟩=some (.int .i64 m))(h1:1<=sep.size)(ar:1<=n)(aaF:n<=9223372036854775807):Calls Tryz.prog 47 #[.string s,.string sep,.int .i64 n] w fun e w'=>e=.returned (.slice (some ⟨w.heap.size,0,none⟩) (Lib.splitB sep 0 (min n (s.size+1)-1) s).length (min n (s.size+1)))/\w'=w.alloc (.cells (Lib.cellsOf (Lib.splitB sep 0 (min n (s.size+1)-1) s) (min n (s.size+1))) 9):=Any.strings_SplitN Tryz.aaE ax s sep n m w hs hm h1 ar aaF
end Go.Proofs
