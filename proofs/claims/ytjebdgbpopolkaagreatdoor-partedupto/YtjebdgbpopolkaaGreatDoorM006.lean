import Derived.Test.YtjebdgbpopolkaaGreatDoorM00
import Derived.Shelf.Small.Strs
import Derived.Shelf.Small.Wraps
import Derived.Shelf.Strings.BuilderK
import Derived.Shelf.Strconv.Clone
import Derived.Shelf.Strings.Shaped
import Derived.Shelf.Strings.Split
import Derived.Shelf.Unicode.DecodeSlow
set_option maxHeartbeats 0
set_option maxRecDepth 100000
set_option linter.all false
namespace Go.Proofs
open Go.Shelf
def Tryz.QC:Go.Shelf.Ren:=⟨fun | 169=>239 | n=>n,fun | 70=>302 | 9=>9 | 0=>0 | 72=>304 | 37=>72 | 127=>225 | 3=>3 | 5=>5 | n=>n,fun | n=>n⟩
def Tryz.aao:Go.Proofs.Lays.n169 Tryz.prog Tryz.QC:={
 mixed:=ax
 f169:=Tryz.func239.trans (congrArg some ax)
 t0:=Tryz.underlying0
 a0:=Tryz.isAgg0
 z0:=Tryz.sizeOf0
 v0:=Tryz.zeroValue0
 t3:=Tryz.underlying3
 a3:=Tryz.isAgg3
 z3:=Tryz.sizeOf3
 v3:=Tryz.zeroValue3
 t9:=Tryz.underlying9
 a9:=Tryz.isAgg9
 z9:=Tryz.sizeOf9
 v9:=Tryz.zeroValue9
 t37:=Tryz.underlying72
 a37:=Tryz.isAgg72
 z37:=Tryz.sizeOf72
 v37:=Tryz.zeroValue72
 t70:=Tryz.underlying302
 a70:=Tryz.isAgg302
 z70:=Tryz.sizeOf302
 v70:=Tryz.zeroValue302
 t72:=Tryz.underlying304
 a72:=Tryz.isAgg304
 z72:=Tryz.sizeOf304
 v72:=Tryz.zeroValue304
 t127:=Tryz.underlying225
 a127:=Tryz.isAgg225
 z127:=Tryz.sizeOf225
 v127:=Tryz.zeroValue225}
def Tryz.Dd:Builder.Extra Tryz.prog Tryz.QC:={
 sizeBuilder:=ax
 liesBuilder:=ax
 t5:=Tryz.underlying5
 a5:=Tryz.isAgg5
 z5:=Tryz.sizeOf5
 v5:=Tryz.zeroValue5
 infoByte:=ax
 cellsByte:=ax
 sizeByte:=ax
 neB5:=by decide}
open Go.RowKit in
def Tryz.Builder_String_any(bB b:Nat)(l:List UInt8)(w:World)(h:Lib.IsBuilder 304 5 bB b (Lib.byteCells l) w)(Kd:bB<=w.heap.size):Calls Tryz.prog 239 #[.pointer (some ⟨b,0,none⟩)] w fun e w'=>e=.returned (.string ⟨l.toArray⟩)/\Below bB w w':=Any.Builder_String_any Tryz.aao Tryz.Dd bB b l w h Kd
def Tryz.aap:Go.Shelf.Ren:=⟨fun | 106=>129 | 213=>192 | 265=>253 | n=>n,fun | 9=>9 | 3=>3 | n=>n,fun | n=>n⟩
def Tryz.aaq:Go.Proofs.Lays.n106 Tryz.prog Tryz.aap:={
 mixed:=ax
 f106:=Tryz.func129.trans (congrArg some ax)
 f213:=Tryz.func192.trans (congrArg some ax)
 f265:=Tryz.func253.trans (congrArg some ax)
 t3:=Tryz.underlying3
 a3:=Tryz.isAgg3
 z3:=Tryz.sizeOf3
 v3:=Tryz.zeroValue3
 t9:=Tryz.underlying9
 a9:=Tryz.isAgg9
 z9:=Tryz.sizeOf9
 v9:=Tryz.zeroValue9}
open Go.RowKit in
def Tryz.strings_Compare(a b:ByteArray)(w:World):Calls Tryz.prog 129 #[.string a,.string b] w fun e w'=>e=.returned (.int .i64 (Lib.compareBytes a.data.toList b.data.toList))/\w'=w:=Any.strings_Compare Tryz.aaq a b w
def Tryz.aar:Go.Shelf.Ren:=⟨fun | 137=>269 | 217=>262 | 266=>284 | n=>n,fun | 9=>9 | 5=>5 | 3=>3 | n=>n,fun | n=>n⟩
def Tryz.aas:Go.Proofs.Lays.n137 Tryz.prog Tryz.aar:={
 mixed:=ax
 f137:=Tryz.func269.trans (congrArg some ax)
 f217:=Tryz.func262.trans (congrArg some ax)
 f266:=Tryz.func284.trans (congrArg some ax)
 t3:=Tryz.underlying3
 a3:=Tryz.isAgg3
 z3:=Tryz.sizeOf3
 v3:=Tryz.zeroValue3
 t5:=Tryz.underlying5
 a5:=Tryz.isAgg5
 z5:=Tryz.sizeOf5
 v5:=Tryz.zeroValue5
 t9:=Tryz.underlying9
 a9:=Tryz.isAgg9
 z9:=Tryz.sizeOf9
 v9:=Tryz.zeroValue9}
open Go.RowKit in
def Tryz.strings_IndexByte(s:ByteArray)(c:Int)(w:World):Calls Tryz.prog 269 #[.string s,.int .u8 c] w fun e w'=>e=.returned (.int .i64 (Lib.indexByte s.data.toList c.toNat.toUInt8))/\w'=w:=Any.strings_IndexByte Tryz.aas s c w
def Tryz.aat:Go.Shelf.Ren:=⟨fun | 103=>211 | 210=>267 | 206=>209 | n=>n,fun | 9=>9 | 4=>4 | 24=>280 | 3=>3 | n=>n,fun | n=>n⟩
def Tryz.aau:Go.Proofs.Lays.n103 Tryz.prog Tryz.aat:={
 mixed:=ax
 f103:=Tryz.func211.trans (congrArg some ax)
 f206:=Tryz.func209.trans (congrArg some ax)
 f210:=Tryz.func267.trans (congrArg some ax)
 t3:=Tryz.underlying3
 a3:=Tryz.isAgg3
 z3:=Tryz.sizeOf3
 v3:=Tryz.zeroValue3
 t4:=Tryz.underlying4
 a4:=Tryz.isAgg4
 z4:=Tryz.sizeOf4
 v4:=Tryz.zeroValue4
 t9:=Tryz.underlying9
 a9:=Tryz.isAgg9
 z9:=Tryz.sizeOf9
 v9:=Tryz.zeroValue9
 t24:=Tryz.underlying280
 a24:=Tryz.isAgg280
 z24:=Tryz.sizeOf280
 v24:=Tryz.zeroValue280}
open Go.RowKit in
def Tryz.strings_CutPrefix(s p:ByteArray)(w:World):Calls Tryz.prog 211 #[.string s,.string p] w fun e w'=>e=.returned (.tuple #[.string ⟨(Lib.trimPrefix s.data.toList p.data.toList).toArray⟩,.bool (Lib.hasPrefix s.data.toList p.data.toList)])/\w'=w:=Any.strings_CutPrefix Tryz.aau s p w
def Tryz.aav:Go.Shelf.Ren:=⟨fun | 104=>210 | 211=>266 | 207=>286 | n=>n,fun | 9=>9 | 4=>4 | 24=>280 | 3=>3 | n=>n,fun | n=>n⟩
def Tryz.aaw:Go.Proofs.Lays.n104 Tryz.prog Tryz.aav:={
 mixed:=ax
 f104:=Tryz.func210.trans (congrArg some ax)
 f207:=Tryz.func286.trans (congrArg some ax)
 f211:=Tryz.func266.trans (congrArg some ax)
 t3:=Tryz.underlying3
 a3:=Tryz.isAgg3
 z3:=Tryz.sizeOf3
 v3:=Tryz.zeroValue3
 t4:=Tryz.underlying4
 a4:=Tryz.isAgg4
 z4:=Tryz.sizeOf4
 v4:=Tryz.zeroValue4
 t9:=Tryz.underlying9
 a9:=Tryz.isAgg9
 z9:=Tryz.sizeOf9
 v9:=Tryz.zeroValue9
 t24:=Tryz.underlying280
 a24:=Tryz.isAgg280
 z24:=Tryz.sizeOf280
 v24:=Tryz.zeroValue280}
open Go.RowKit in
def Tryz.strings_CutSuffix(s p:ByteArray)(w:World)(hs:s.size<=9223372036854775807):Calls Tryz.prog 210 #[.string s,.string p] w fun e w'=>e=.returned (.tuple #[.string ⟨(Lib.trimSuffix s.data.toList p.data.toList).toArray⟩,.bool (Lib.hasSuffix s.data.toList p.data.toList)])/\w'=w:=Any.strings_CutSuffix Tryz.aaw s p w hs
def Tryz.aax:Go.Shelf.Ren:=⟨fun | 122=>130 | 215=>193 | n=>n,fun | 3=>3 | 4=>4 | n=>n,fun | n=>n⟩
def Tryz.aay:Go.Proofs.Lays.n122 Tryz.prog Tryz.aax:={
 mixed:=ax
 f122:=Tryz.func130.trans (congrArg some ax)
 f215:=Tryz.func193.trans (congrArg some ax)
 t3:=Tryz.underlying3
 a3:=Tryz.isAgg3
 z3:=Tryz.sizeOf3
 v3:=Tryz.zeroValue3
 t4:=Tryz.underlying4
 a4:=Tryz.isAgg4
 z4:=Tryz.sizeOf4
 v4:=Tryz.zeroValue4}
open Go.RowKit in
def Tryz.cmp_Compare_int(x y:Int)(w:World):Calls Tryz.prog 130 #[.int .i64 x,.int .i64 y] w fun e w'=>e=.returned (.int .i64 (Lib.compareInt x y))/\w'=w:=Any.cmp_Compare_int Tryz.aay x y w
def Tryz.aaz:Go.Shelf.Ren:=⟨fun | 316=>83 | n=>n,fun | 9=>9 | 3=>3 | 4=>4 | 37=>72 | 0=>0 | 127=>225 | 5=>5 | n=>n,fun | n=>n⟩
def Tryz.aaA:Go.Proofs.LaysM.n316 Tryz.prog Tryz.aaz:={
 mixed:=ax
 f316:=Tryz.func83.trans (congrArg some ax)
 t0:=Tryz.underlying0
 a0:=Tryz.isAgg0
 z0:=Tryz.sizeOf0
 v0:=Tryz.zeroValue0
 t3:=Tryz.underlying3
 a3:=Tryz.isAgg3
 z3:=Tryz.sizeOf3
 v3:=Tryz.zeroValue3
 t4:=Tryz.underlying4
 a4:=Tryz.isAgg4
 z4:=Tryz.sizeOf4
 v4:=Tryz.zeroValue4
 t9:=Tryz.underlying9
 a9:=Tryz.isAgg9
 z9:=Tryz.sizeOf9
 v9:=Tryz.zeroValue9
 t37:=Tryz.underlying72
 a37:=Tryz.isAgg72
 z37:=Tryz.sizeOf72
 v37:=Tryz.zeroValue72
 t127:=Tryz.underlying225
 a127:=Tryz.isAgg225
 z127:=Tryz.sizeOf225
 v127:=Tryz.zeroValue225
 t5:=Tryz.underlying5
 a5:=Tryz.isAgg5
 z5:=Tryz.sizeOf5
 v5:=Tryz.zeroValue5
 i0:=ax
 i3:=ax
 i4:=ax
 i5:=ax
 i9:=ax
 i37:=ax
 i127:=by kernel_rfl}
open Go.RowKit in
def Tryz.stringslite_Clone(s:ByteArray)(w:World)(Bb:s.size<=281474976710656):Calls Tryz.prog 83 #[.string s] w fun e w'=>e=.returned (.string s)/\Below w.heap.size w w':=Any.stringslite_Clone Tryz.aaA s w Bb
def Tryz.aaB:Go.Shelf.Ren:=⟨fun | 99=>140 | 206=>209 | n=>n,fun | 9=>9 | 4=>4 | 3=>3 | n=>n,fun | n=>n⟩
def Tryz.aaC:Go.Proofs.Lays.n99 Tryz.prog Tryz.aaB:={
 mixed:=ax
 f99:=Tryz.func140.trans (congrArg some ax)
 f206:=Tryz.func209.trans (congrArg some ax)
 t3:=Tryz.underlying3
 a3:=Tryz.isAgg3
 z3:=Tryz.sizeOf3
 v3:=Tryz.zeroValue3
 t4:=Tryz.underlying4
 a4:=Tryz.isAgg4
 z4:=Tryz.sizeOf4
 v4:=Tryz.zeroValue4
 t9:=Tryz.underlying9
 a9:=Tryz.isAgg9
 z9:=Tryz.sizeOf9
 v9:=Tryz.zeroValue9}
open Go.RowKit Go.Lib in
def Tryz.strings_HasPrefix(s p:ByteArray)(w:World):Calls Tryz.prog 140 #[.string s,.string p] w fun e w'=>e=.returned (.bool (Lib.hasPrefix s.data.toList p.data.toList))/\w'=w:=Any.strings_HasPrefix Tryz.aaC s p w
def Tryz.aaD:Go.Shelf.Ren:=⟨fun | 147=>54 | 221=>92 | 268=>136 | 138=>137 | 143=>138 | 195=>205 | 197=>206 | 218=>207 | 219=>208 | 260=>261 | 217=>262 | 225=>263 | 224=>264 | 267=>265 | 266=>284 | 314=>285 | n=>n,fun | 9=>9 | 3=>3 | 31=>34 | 4=>4 | 0=>0 | 105=>277 | 21=>21 | 5=>5 | 46=>164 | 119=>340 | 139=>343 | 138=>342 | 146=>344 | 51=>218 | n=>n,fun | 1=>1 | 3=>3 | 4=>4 | n=>n⟩
def Tryz.aaE:Go.Proofs.Lays.n147 Tryz.prog Tryz.aaD:={
 mixed:=ax
 f138:=Tryz.func137.trans (congrArg some ax)
 f143:=Tryz.func138.trans (congrArg some ax)
 f147:=Tryz.func54.trans (congrArg some ax)
 f195:=Tryz.func205.trans (congrArg some ax)
 f197:=Tryz.func206.trans (congrArg some ax)
 f217:=Tryz.func262.trans (congrArg some ax)
 f218:=Tryz.func207.trans (congrArg some ax)
 f219:=Tryz.func208.trans (congrArg some ax)
 f221:=Tryz.func92.trans (congrArg some ax)
 f224:=Tryz.func264.trans (congrArg some ax)
 f225:=Tryz.func263.trans (congrArg some ax)
 f260:=Tryz.func261.trans (congrArg some ax)
 f266:=Tryz.func284.trans (congrArg some ax)
 f267:=Tryz.func265.trans (congrArg some ax)
 f268:=Tryz.func136.trans (congrArg some ax)
 f314:=Tryz.func285.trans (congrArg some ax)
 t0:=Tryz.underlying0
 a0:=Tryz.isAgg0
 z0:=Tryz.sizeOf0
 v0:=Tryz.zeroValue0
 t3:=Tryz.underlying3
 a3:=Tryz.isAgg3
 z3:=Tryz.sizeOf3
 v3:=Tryz.zeroValue3
 t4:=Tryz.underlying4
 a4:=Tryz.isAgg4
 z4:=Tryz.sizeOf4
 v4:=Tryz.zeroValue4
 t5:=Tryz.underlying5
 a5:=Tryz.isAgg5
 z5:=Tryz.sizeOf5
 v5:=Tryz.zeroValue5
 t9:=Tryz.underlying9
 a9:=Tryz.isAgg9
 z9:=Tryz.sizeOf9
 v9:=Tryz.zeroValue9
 t21:=Tryz.underlying21
 a21:=Tryz.isAgg21
 z21:=Tryz.sizeOf21
 v21:=Tryz.zeroValue21
 t31:=Tryz.underlying34
 a31:=Tryz.isAgg34
 z31:=Tryz.sizeOf34
 v31:=Tryz.zeroValue34
 t46:=Tryz.underlying164
 a46:=Tryz.isAgg164
 z46:=Tryz.sizeOf164
 v46:=Tryz.zeroValue164
 t51:=Tryz.underlying218
 a51:=Tryz.isAgg218
 z51:=Tryz.sizeOf218
 v51:=Tryz.zeroValue218
 t105:=Tryz.underlying277
 a105:=Tryz.isAgg277
 z105:=Tryz.sizeOf277
 v105:=Tryz.zeroValue277
 t119:=Tryz.underlying340
 a119:=Tryz.isAgg340
 z119:=Tryz.sizeOf340
 t138:=Tryz.underlying342
 a138:=Tryz.isAgg342
 z138:=Tryz.sizeOf342
 v138:=Tryz.zeroValue342
 t139:=Tryz.underlying343
 a139:=Tryz.isAgg343
 z139:=Tryz.sizeOf343
 v139:=Tryz.zeroValue343
 t146:=Tryz.underlying344
 a146:=Tryz.isAgg344
 z146:=Tryz.sizeOf344
 v146:=Tryz.zeroValue344
 g1:=ax
 g3:=ax
 g4:=by kernel_rfl}
open Go.RowKit Go.Lib in
def Tryz.strings_SplitN(s sep:ByteArray)(n:Nat)(m:Int)(w:World)(hs:s.size<4294967281)(hm:w.cell? ⟨1,0,none⟩=some (.int .i64 m))(h1:1<=sep.size)(ar:1<=n)(aaF:n<=9223372036854775807):Calls Tryz.prog 54 #[.string s,.string sep,.int .i64 n] w fun e w'=>e=.returned (.slice (some ⟨w.heap.size,0,none⟩) (Lib.splitB sep 0 (min n (s.size+1)-1) s).length (min n (s.size+1)))/\w'=w.alloc (.cells (Lib.cellsOf (Lib.splitB sep 0 (min n (s.size+1)-1) s) (min n (s.size+1))) 9):=Any.strings_SplitN Tryz.aaE ax s sep n m w hs hm h1 ar aaF
end Go.Proofs
