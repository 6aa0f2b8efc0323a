set_option linter.all false
abbrev e6:=ByteArray
theorem ax2 {p:Prop} [Decidable p] (h:¬p):decide p=false:=decide_eq_false h
theorem ax3 {p:Prop} [Decidable p] (h:p):decide p=true:=decide_eq_true h
theorem ax4 {α:Type _} {a:α}:¬a∈([]:List α):=List.not_mem_nil
theorem ax5 {α:Type _} {a:α} {s t:List α} (h:a∈s++t):a∈s∨a∈t:=List.mem_append.1 h
theorem ax1 (n:Nat):0+n=n:=Nat.zero_add n
theorem ax7 {α:Type _} {x:Array α}:x.toList.length=x.size:=Array.length_toList
theorem ax6 {α:Type _} {a:α} {l:List α}:a∈a::l:=List.mem_cons_self
abbrev e4:=List ByteArray
abbrev lh:=List (ByteArray×ByteArray)
theorem cV {α:Type _} [BEq α] [LawfulBEq α] {a b:α}:(a==b)=false<->a≠b:=beq_eq_false_iff_ne
theorem r {p:Prop} (h:p:=by omega):p:=h
theorem K {p:Prop} (h:p:=by decide):p:=h
theorem aV {α β:Type _} {o:Option α} {f:α->Option β} {b:β} (h:o.bind f=some b):∃a,o=some a/\f a=some b:=Option.bind_eq_some_iff.1 h
theorem br {α:Type _} {x:Array α} {i:Nat} {a:α} (h:x[i]?=some a):∃h:i<x.size,x[i]=a:=Array.getElem?_eq_some_iff.1 h
theorem ap {n:Nat}:n<=n:=Nat.le_refl n
theorem bu {n:Nat}:0<=n:=Nat.zero_le n
theorem bX {a b c:Nat} (h:a<=b) (g:b<=c):a<=c:=Nat.le_trans h g
theorem e0 {a b c:Nat} (h:a<b) (g:b<=c):a<c:=Nat.lt_of_lt_of_le h g
theorem bx {α:Type _} {a b:α} (h:some a=some b):a=b:=Option.some.inj h
theorem ec {α:Type _} {l:List α} {n:Nat} (h:n<l.length):l[n]∈l:=List.getElem_mem h
theorem cu {α:Type _} {a b:List α}:(a++b).length=a.length+b.length:=List.length_append
theorem cZ {α β:Type _} {l:List α} (f:α->β):(l.map f).length=l.length:=List.length_map f
theorem di {α:Type _} {a:α} {l:List α}:(a::l).length=l.length+1:=rfl
theorem b2 {α β:Type _} (a:α) (f:α->Option β):(some a).bind f=f a:=rfl
theorem fp (n:Nat):¬n<0:=Nat.not_lt_zero n
theorem ic {α:Type _} {a b:α} (h:a∈[b]):a=b:=List.mem_singleton.1 h
theorem ma {α:Type _} {l:List α} (h:l.length=0):l=[]:=List.eq_nil_of_length_eq_zero h
theorem fC {α:Type _} {l:List α} {i:Nat} (h:i<l.length):l[i]?=some l[i]:=List.getElem?_eq_getElem h
theorem eQ {α β:Type _} (a:α) (f:α->β):(some a).map f=some (f a):=rfl
theorem jD {α:Type _} {i:Nat} {l:List α} (h:i<l.length):l.take (i+1)=l.take i++[l[i]]:=List.take_succ_eq_append_getElem h
