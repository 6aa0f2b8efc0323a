import Derived.Test.YtjebdgbpopolkaaGreatDoorM00a
import Derived.Test.YtjebdgbpopolkaaGreatDoorProg
import Derived.Below
set_option maxHeartbeats 0
set_option maxRecDepth 100000
set_option linter.all false
theorem cT {w:Go.World} {o:Go.Obj}:Go.RowKit.Below w.heap.size w (w.alloc o):=(Go.RowKit.Below.refl _ _).alloc (Nat.le_refl _) _
theorem bH (w:Go.World) (o:Go.Obj):(w.alloc o).heap[w.heap.size]?=some o:=by show (w.heap.push o)[w.heap.size]?=_;exact Array.getElem?_push_size
theorem cc (w:Go.World) (o:Go.Obj):(w.alloc o).heap.size=w.heap.size+1:=Go.World.size_alloc w o
theorem Go.RowKit.Hid.d {p:Prop} (h:Go.RowKit.Hid p):p:=h.out
abbrev M (b:Nat):Go.Value:=.pointer (some ⟨b,0,none⟩)
abbrev q (n:Int):Go.Value:=.int .i64 n
theorem ax {p:Prop} (h:p:=by kernel_rfl):p:=h
abbrev eB (w v:Go.World):Prop:=Go.RowKit.Below w.heap.size w v
abbrev gU (w:Go.World) (v:Go.Value) (e:Go.Ending) (bp:Go.World):Prop:=e=.returned v/\Go.RowKit.Below w.heap.size w bp
abbrev ov (w:Go.World) (v:Go.Value) (e:Go.Ending) (bp:Go.World):Prop:=e=.returned v/\w=bp
abbrev ey (f:Go.FuncId) (x:Array Go.Value) (w:Go.World) (cm:Go.Ending->Go.World->Prop):Prop:=Go.Calls Go.Proofs.Tryz.prog f x w cm
abbrev dp (w:Go.World) (b i:Nat):Option Go.Value:=w.cell? ⟨b,i,none⟩
theorem mC {x:Int} (h: -9223372036854775808<=x/\x<=9223372036854775807:=by omega):Go.IntKind.i64.wrap x=x:=by rw[Go.IntKind.wrap_i64];omega
abbrev yT:Array Go.Value:=#[.nilFunc,.nilFunc,.nilFunc,.nilFunc,.nilFunc,.nilFunc,.nilFunc,.nilFunc,.nilFunc,.nilFunc,.nilFunc,.nilFunc,.nilFunc,.nilFunc,.nilFunc,.nilFunc,.nilFunc,.nilFunc,.nilFunc,.nilFunc]
