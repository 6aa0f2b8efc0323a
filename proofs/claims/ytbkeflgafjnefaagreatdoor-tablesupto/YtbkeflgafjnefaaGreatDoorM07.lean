/- Towards the law of tables: C0, C1, C2, C3, C4. -/
import Derived.Test.YtbkeflgafjnefaaGreatDoorM04
import Derived.Test.YtbkeflgafjnefaaGreatDoorM06
namespace Go.Proofs.YtbkeflgafjnefaaGreatDoor
open Go.RowKit
open Trib
theorem rowBel {w w' : World} {lo : Nat} {e : TypeId} {size n : Nat} {v : Value} {xs : List Value} (h : w.ownsRow lo e size v n xs) (hb : Below w.heap.size w w') : w'.ownsRow lo e size v n xs := by
  refine ⟨h.1, ?_⟩
  rcases h.2 with hn | ⟨g, cap, cur, rfl, hl, hgg, rest⟩
  · exact .inl hn
  · exact .inr ⟨g, cap, cur, rfl, hl, (hb.block g (Array.getElem?_eq_some_iff.1 hgg).1).trans hgg, rest⟩
theorem rowLow {lo lo' : Nat} (hl : lo' ≤ lo) {w : World} {e : TypeId} {size n : Nat} {v : Value} {xs : List Value} (h : w.ownsRow lo e size v n xs) : w.ownsRow lo' e size v n xs := by
  refine ⟨h.1, ?_⟩
  rcases h.2 with hn | ⟨g, cap, cur, rfl, hb, rest⟩
  · exact .inl hn
  · exact .inr ⟨g, cap, cur, rfl, by omega, rest⟩
theorem rowShape {w : World} {base n : Nat} {e : TypeId} {size : Nat} {v : Value} {xs : List Value} (h : w.ownsRow base e size v n xs) : ∃ a cap, v = .slice a n cap := by
  rcases h.2 with ⟨rfl, rfl⟩ | ⟨g, cap, cur, rfl, _⟩
  · exact ⟨_, _, rfl⟩
  · exact ⟨_, _, rfl⟩
theorem blkCell {w : World} {c i : Nat} {cs : Array Value} {t : TypeId} (h : w.heap[c]? = some (.cells cs t (0, 0))) {x : Value} (hx : cs[i]? = some x) : w.cell? ⟨c, i, none⟩ = some x := by simp [World.cell?, h, hx]
theorem blkFree {w : World} {c i : Nat} {cs : Array Value} {t : TypeId} (h : w.heap[c]? = some (.cells cs t (0, 0))) : w.frozen? ⟨c, i, none⟩ = false := by simp [World.frozen?, h]
theorem rowApart {w : World} {lo n k size : Nat} {e T : TypeId} {v : Value} {xs : List Value} {cs : Array Value} (hrow : w.ownsRow lo e size v n xs) (h : w.heap[k]? = some (.cells cs T (0, 0))) (hT : T ≠ e) : v.ownBlock ≠ some k := by
  rcases hrow.2 with ⟨rfl, _⟩ | ⟨g, cap, cur, rfl, _, hgb, _⟩
  · simp [Value.ownBlock]
  · intro e'
    simp [Value.ownBlock] at e'
    subst e'
    rw [h] at hgb
    simp at hgb
    exact hT hgb.2
theorem tolInj {a b : ByteArray} (h : a.toList = b.toList) : a = b := by
  rw [ByteArray.toList_eq, ByteArray.toList_eq] at h
  cases a with
  | mk x => cases b with
    | mk y => exact congrArg ByteArray.mk (Array.toList_inj.1 h)
theorem tolNe {a b : ByteArray} (h : ¬ a = b) : (a.toList == b.toList) = false := by
  rw [beq_eq_false_iff_ne]
  exact fun e => h (tolInj e)
/-- A cell of a row. -/
theorem rowCell {w : World} {lo e size n g cap : Nat} {xs : List Value} (h : w.ownsRow lo e size (.slice (some ⟨g, 0, none⟩) n cap) n xs) {i : Nat} {x : Value} (hx : xs[i]? = some x) : w.cell? ⟨g, i, none⟩ = some x := by
  have := h.cells rfl i _ hx
  rwa [Addr.add_lit, Nat.zero_add] at this
theorem rowCellA {w : World} {lo e size n cap : Nat} {a : Addr} {xs : List Value} (h : w.ownsRow lo e size (.slice (some a) n cap) n xs) {i : Nat} {x : Value} (hx : xs[i]? = some x) : ∃ g, a = ⟨g, 0, none⟩ ∧ w.cell? ⟨g, i, none⟩ = some x := by
  rcases h.2 with ⟨e', _⟩ | ⟨g, cap', cur, e', _⟩
  · cases e'
  · injection e' with e1
    injection e1 with e1
    subst e1
    exact ⟨g, rfl, rowCell h hx⟩
end Go.Proofs.YtbkeflgafjnefaaGreatDoor
namespace Go.Proofs.YtbkeflgafjnefaaGreatDoor
open Go.RowKit
open Trib
/-- What split answers. -/
def SplitPost (c : UInt8) (s : ByteArray) (w : World) (e : Ending) (w' : World) : Prop :=
  ∃ (v : Value) (ts : List ByteArray), e = .returned v ∧ splitB c s.data.toList = ts.map (·.data.toList) ∧ (∀ t ∈ ts, t.size ≤ s.size) ∧ w'.ownsRow w.heap.size 9 1 v ts.length (ts.map Value.string) ∧ Below w.heap.size w w'
set_option maxHeartbeats 8000000 in
set_option maxRecDepth 100000 in
theorem split_any (c : UInt8) (s : ByteArray) (cn : Int) (hc : cn = (c.toNat : Int)) (w : World) (hs : s.size ≤ 2000000) :
    Calls Tryz.prog 166 #[.string s, .int .u8 cn] w (SplitPost c s w) := by
  obtain ⟨i0, hi, hz0, hz1, hz2⟩ := info_parts infoString
  have HCN := hide hc
  clear hc
  go_enter Tryz.func166, Tryz.ntmps166
  go_wp2_with fail
  go_loopg [5, 6, 7] (s.size + 1) (fun q out from_ i wr => ∃ (j f : Nat) (ts : List ByteArray), j ≤ s.size ∧ i = .int .i64 (j : Int) ∧ from_ = .int .i64 (f : Int) ∧ f ≤ j ∧ ts.length ≤ j ∧ Hid (SpInv c s f j ts) ∧ wr.ownsRow w.heap.size 9 1 out ts.length (ts.map Value.string) ∧ Below w.heap.size w wr ∧ s.size - j < q)
  case atStart => exact ⟨0, 0, [], Nat.zero_le _, rfl, rfl, Nat.le_refl _, Nat.le_refl _, hide (SpInv.start c s), World.ownsRow_nil _ _ _ _, Below.refl _ _, by omega⟩
  case round =>
    obtain ⟨j, f, ts, hj, rfl, rfl, hfj, htj, hinv, hown, hb, hq⟩ := hrel
    have HQ := hide hq
    have zr := hb.size
    clear hq
    obtain ⟨oa, ocap, rfl⟩ := rowShape hown
    have hfj' : (f : Int) ≤ (j : Int) := by omega
    by_cases hlt : j < s.size
    · have hlt' : (j : Int) < (s.size : Int) := by omega
      have hwr : IntKind.i64.wrap ((j : Int) + 1) = (j : Int) + 1 := by rw [IntKind.wrap_i64]; omega
      by_cases he : s[j] = c
      · have HI := hide (hinv.out.cut hlt he)
        have hcc : (s[j].toNat : Int) = cn := by rw [HCN.out, he]
        have HE := hide he
        clear he hinv
        go_wp2_with (at_builtin; refine wpList_append_own _ rfl _ _ 41 rfl w.heap.size 9 i0 (.string ⟨#[]⟩) 1 16 Tryz.underlying41 hi hz0 hz1 hz2 rfl (by decide) _ _ _ rfl (hown.alloc _) ⟨wr.heap.size, 0, none⟩ 1 1 [.string (s.extract f j)] rfl rfl (cell_one_new _ _ _) (by simp [Value.oneCell']) (by unfold maxLen; omega) (by omega) (by have := hb.size; simp; omega) ?_; intro v' w1 hown' hgrow _)
        have hq := HQ.out
        obtain ⟨r1, r2⟩ := tok_rel hb hown hown' hgrow
        go_roundg (s.size - j)
        case measure => omega
        case rel => exact ⟨j + 1, j + 1, ts ++ [s.extract f j], by omega, by go_num, by go_num, Nat.le_refl _, by simp; omega, HI, r1, r2, by omega⟩
      · have HI := hide (hinv.out.go hlt he)
        have hcc : ((s[j].toNat : Int) == cn) = false := by
          rw [HCN.out, beq_eq_false_iff_ne]
          intro e; exact he (UInt8.toNat_inj.1 (by omega))
        clear he hinv
        go_wp2_with fail
        have hq := HQ.out
        go_roundg (s.size - j)
        case measure => omega
        case rel => exact ⟨j + 1, f, ts, by omega, by go_num, rfl, by omega, by omega, HI, hown, hb, by omega⟩
    · have hlt' : (s.size : Int) ≤ (j : Int) := by omega
      have HD := hide (hinv.out.done hlt)
      clear hinv
      have hfs : (f : Int) ≤ (s.size : Int) := by omega
      go_wp2_with (at_builtin; refine wpList_append_own _ rfl _ _ 41 rfl w.heap.size 9 i0 (.string ⟨#[]⟩) 1 16 Tryz.underlying41 hi hz0 hz1 hz2 rfl (by decide) _ _ _ rfl (hown.alloc _) ⟨wr.heap.size, 0, none⟩ 1 1 [.string (s.extract f s.size)] rfl rfl (cell_one_new _ _ _) (by simp [Value.oneCell']) (by unfold maxLen; omega) (by omega) (by have := hb.size; simp; omega) ?_; intro v' w1 hown' hgrow _)
      obtain ⟨r1, r2⟩ := tok_rel hb hown hown' hgrow
      go_ret
      exact ⟨_, _, rfl, HD.out.1, HD.out.2, r1, r2⟩
end Go.Proofs.YtbkeflgafjnefaaGreatDoor
namespace Go.Proofs.YtbkeflgafjnefaaGreatDoor
open Go.RowKit
open Trib
def ptrsR (bs : List Nat) : List Value := bs.map fun b => .pointer (some ⟨b, 0, none⟩)
def idxB : Option Nat → Int
  | none => -1
  | some i => i
set_option maxHeartbeats 8000000 in
theorem rfind_any (b : Nat) (v : Value) (bs : List Nat) (ns : List ByteArray) (name : ByteArray) (base : Nat) (w : World) (hx : w.cell? ⟨b, 0, none⟩ = some v) (hrow : w.ownsRow base 287 1 v bs.length (ptrsR bs)) (hns : ns.length = bs.length) (hl : bs.length ≤ 1000)
    (hnm : ∀ i (h : i < bs.length) (h2 : i < ns.length), w.cell? ⟨bs[i], 0, none⟩ = some (.string ns[i])) :
    Calls Tryz.prog 167 #[.pointer (some ⟨b, 0, none⟩), .string name] w fun e w' => e = .returned (.int .i64 (idxB (firstB ns name))) ∧ w = w' := by
  have HNM := hide hnm
  have HNS := hide hns
  clear hnm hns
  obtain ⟨oa, ocap, rfl⟩ := rowShape hrow
  go_enter Tryz.func167, Tryz.ntmps167
  go_wp2_with fail
  go_loopg [5] (bs.length + 1) (fun q i wr => ∃ (j : Nat), j ≤ bs.length ∧ i = .int .i64 (j : Int) ∧ NoneB ns name j ∧ w = wr ∧ bs.length - j < q)
  case atStart => exact ⟨0, Nat.zero_le _, rfl, (fun a ha _ => absurd ha (Nat.not_lt_zero _)), rfl, by omega⟩
  case round =>
    obtain ⟨j, hj, rfl, hn, rfl, hq⟩ := hrel
    by_cases hlt : j < bs.length
    · have hlt' : (j : Int) < (bs.length : Int) := by omega
      have hlt2 : j < ns.length := by have := HNS.out; omega
      have h1 : (ptrsR bs)[j]? = some (.pointer (some ⟨bs[j], 0, none⟩)) := by
        unfold ptrsR; rw [List.getElem?_map, List.getElem?_eq_getElem hlt]; rfl
      rcases hrow.2 with ⟨e', h0⟩ | ⟨g, cap, cur, e', _⟩
      · omega
      obtain ⟨rfl, rfl⟩ : oa = some ⟨g, 0, none⟩ ∧ ocap = cap := by
        injection e' with e1 e2 e3
        exact ⟨e1, e3⟩
      have c1 := rowCell hrow h1
      have c2 := HNM.out j hlt hlt2
      have hwr : IntKind.i64.wrap ((j : Int) + 1) = (j : Int) + 1 := by rw [IntKind.wrap_i64]; omega
      clear h1
      by_cases he : ns[j] = name
      · have HF := hide (first_some hn hlt2 he)
        rw [he] at c2
        clear hn hq
        go_wp2_with fail
        go_ret
        exact ⟨by rw [HF.out]; rfl, rfl⟩
      · have HNN : Hid (NoneB ns name (j + 1)) := hide (fun a ha h => by
          by_cases e : a = j
          · subst e; exact he
          · exact hn a (by omega) h)
        have hne := tolNe he
        have HQ := hide hq
        clear hn hq he
        go_wp2_with fail
        have hq := HQ.out
        go_roundg (bs.length - j)
        case measure => omega
        case rel => exact ⟨j + 1, by omega, by go_num, HNN.out, rfl, by omega⟩
    · have hlt' : (bs.length : Int) ≤ (j : Int) := by omega
      have hj' : j = ns.length := by have := HNS.out; omega
      have HF := hide (first_none (hj' ▸ hn))
      clear hn hq hj'
      go_wp2_with fail
      go_ret
      exact ⟨by rw [HF.out]; rfl, rfl⟩
/-- The clock of the document's engine. -/
def tickC (c t : Int) : Int := if c < t ∧ t ≤ 1000000000000 then t else c
set_option maxHeartbeats 4000000 in
theorem rtick_any (b : Nat) (v0 v1 v2 v3 : Value) (c t : Int) (w : World) (h : w.heap[b]? = some (.cells #[v0, v1, v2, v3, .int .i64 c] 91 (0, 0))) :
    Calls Tryz.prog 112 #[.pointer (some ⟨b, 0, none⟩), .int .i64 t] w fun e w' => e = .returned (.int .i64 (tickC c t)) ∧ w'.heap[b]? = some (.cells #[v0, v1, v2, v3, .int .i64 (tickC c t)] 91 (0, 0)) ∧ w'.os = w.os ∧ w'.tape = w.tape ∧ w'.output = w.output ∧ w'.heap.size = w.heap.size ∧ ∀ k, k ≠ b → w'.heap[k]? = w.heap[k]? := by
  have c4 : w.cell? ⟨b, 4, none⟩ = some (.int .i64 c) := blkCell h (i := 4) rfl
  have f4 : w.frozen? ⟨b, 4, none⟩ = false := blkFree h
  have HB := hide h
  clear h
  unfold tickC
  by_cases h1 : c < t ∧ t ≤ 1000000000000
  · have h2 := h1.1
    have h3 := h1.2
    rw [if_pos h1]
    clear h1
    have hset : (w.setCell ⟨b, 4, none⟩ (.int .i64 t)).heap[b]? = some (.cells #[v0, v1, v2, v3, .int .i64 t] 91 (0, 0)) := by
      simp [World.setCell, Array.getElem?_modify, HB.out]
    have hd := blkCell hset (i := 4) rfl
    have HS := hide hset
    clear hset
    go_enter Tryz.func112, Tryz.ntmps112
    go_wp2_with fail
    go_ret
    exact ⟨rfl, HS.out, rfl, rfl, rfl, by simp [World.setCell], fun k hk => Below.heap_setCell _ _ _ k hk⟩
  · rw [if_neg h1]
    by_cases h2 : c < t
    · have h3 : (1000000000000 : Int) < t := by omega
      clear h1
      go_enter Tryz.func112, Tryz.ntmps112
      go_wp2_with fail
      go_ret
      exact ⟨rfl, HB.out, rfl, rfl, rfl, rfl, fun _ _ => rfl⟩
    · have h3 : t ≤ c := by omega
      clear h1
      go_enter Tryz.func112, Tryz.ntmps112
      go_wp2_with fail
      go_ret
      exact ⟨rfl, HB.out, rfl, rfl, rfl, rfl, fun _ _ => rfl⟩
end Go.Proofs.YtbkeflgafjnefaaGreatDoor
namespace Go.Proofs.YtbkeflgafjnefaaGreatDoor
open Go.RowKit
open Trib
/-- The byte by which the document tells a kind. -/
def tyB (k : Nat) : Int := if k = 0 then 110 else if k = 1 then 105 else 116
theorem num_quote {l : List UInt8} (h : l.head? = some 39) : (numRes l).2 = false := by
  cases l with
  | nil => cases h
  | cons a r =>
    obtain rfl : a = 39 := by simpa using h
    have e : digsOk false (39 :: r) = false := by
      unfold digsOk
      simp [isDig]
    have e1 : ¬ ((39 : UInt8) :: r).head? = some 45 := by simp
    rw [numRes, if_neg e1, numFrom, e]
    rfl
theorem num_none : (numRes []).2 = false := by rfl
theorem tail_last {s : ByteArray} (h2 : 2 ≤ s.size) : s.data.toList.tail.getLast? = some (s[s.size - 1]'(by omega)) ∧ s.data.toList.tail.dropLast = (s.extract 1 (s.size - 1)).data.toList := by
  have hl := lenB s
  constructor
  · rw [List.getLast?_eq_getElem?, List.getElem?_tail, List.length_tail, hl]
    have e : s.size - 1 - 1 + 1 = s.size - 1 := by omega
    rw [e, List.getElem?_eq_getElem (by omega)]
    rfl
  · rw [ext_list, List.dropLast_eq_take, List.length_tail, hl, ← List.drop_one, List.take_drop]
    congr 2
    omega
theorem valRes_word {s : ByteArray} (h2 : 2 ≤ s.size) (h0 : s.data.toList.head? = some 39) (h9 : (s[s.size - 1]'(by omega)) = 39) : valRes s.data.toList = if wordB (s.extract 1 (s.size - 1)).data.toList then (⟨2, 0, (s.extract 1 (s.size - 1)).data.toList⟩, true) else (Vl.zero, false) := by
  have hn : ¬ s.data.toList = [110, 117, 108, 108] := by intro e; rw [e] at h0; simp at h0
  obtain ⟨e1, e2⟩ := tail_last h2
  rw [valRes, if_neg hn, if_pos h0, e1, e2, h9]
  simp
theorem valRes_open {s : ByteArray} (h0 : s.data.toList.head? = some 39) (h9 : s.size < 2 ∨ ∃ h : 2 ≤ s.size, (s[s.size - 1]'(by omega)) ≠ 39) : valRes s.data.toList = (Vl.zero, false) := by
  have hn : ¬ s.data.toList = [110, 117, 108, 108] := by intro e; rw [e] at h0; simp at h0
  have : ¬ (s.data.toList.tail.getLast? = some 39 ∧ wordB s.data.toList.tail.dropLast = true) := by
    rintro ⟨h, _⟩
    rcases h9 with h9 | ⟨h2, h9⟩
    · have : s.data.toList.tail = [] := List.eq_nil_of_length_eq_zero (by rw [List.length_tail, lenB]; omega)
      rw [this] at h; cases h
    · rw [(tail_last h2).1] at h
      exact h9 (Option.some.inj h)
  rw [valRes, if_neg hn, if_pos h0, if_neg this]
theorem valRes_num {l : List UInt8} (hn : ¬ l = [110, 117, 108, 108]) (h0 : ¬ l.head? = some 39) : valRes l = if (numRes l).2 then (⟨1, (numRes l).1, []⟩, true) else (Vl.zero, false) := by
  rw [valRes, if_neg hn, if_neg h0]
/-- What the document's read answers. -/
def ReadV (s : ByteArray) (w : World) (e : Ending) (w' : World) : Prop :=
  (∃ a b c, e = .returned (.tuple #[.agg #[.int .u8 a, .int .i64 b, .string c], .bool (valRes s.data.toList).2]) ∧ ((valRes s.data.toList).2 = true → a = tyB (valRes s.data.toList).1.kind ∧ b = (valRes s.data.toList).1.num ∧ c = bytesL (valRes s.data.toList).1.word)) ∧ Below w.heap.size w w'
theorem res_new (w : World) : (w.alloc (.cells #[.int .u8 0, .int .i64 0, .string ⟨#[]⟩] 310)).heap[w.heap.size]? = some (.cells #[.int .u8 0, .int .i64 0, .string ⟨#[]⟩] 310 (0, 0)) := heap_alloc_new w _
set_option maxHeartbeats 4000000 in
set_option maxRecDepth 100000 in
theorem rread_num (s : ByteArray) (w : World) (hs : s.size ≤ 2000000) (hn : (s.toList == [110, 117, 108, 108]) = false) (hq : s.size < 2 ∨ ∃ h : 2 ≤ s.size, ((s[0].toNat : Int) == 39) = false ∨ ((s[s.size - 1].toNat : Int) == 39) = false)
    : Calls Tryz.prog 241 #[.string s] w fun e w' => e = .returned (.tuple #[.agg #[.int .u8 105, .int .i64 (numRes s.data.toList).1, .string ⟨#[]⟩], .bool (numRes s.data.toList).2]) ∧ Below w.heap.size w w' := by
  have hbw : Below w.heap.size w (w.alloc (.cells #[.int .u8 0, .int .i64 0, .string ⟨#[]⟩] 310)) := (Below.refl _ _).alloc (Nat.le_refl _) _
  have hres := res_new w
  have HN := hide (fun w => number_any s w (by unfold maxLen; omega))
  generalize numRes s.data.toList = R at *
  obtain ⟨n, b⟩ := R
  have fin : ∀ (W : World), W.heap[w.heap.size]? = some (.cells #[.int .u8 0, .int .i64 0, .string ⟨#[]⟩] 310 (0, 0)) → Below w.heap.size w W → True := fun _ _ _ => trivial
  clear fin
  rcases hq with h2 | ⟨h2, h0 | h9⟩
  · have h2' : (s.size : Int) < 2 := by omega
    go_enter Tryz.func241, Tryz.ntmps241
    go_upto_region 6 with fail
    generalize w.alloc (.cells #[.int .u8 0, .int .i64 0, .string ⟨#[]⟩] 310) = W at *
    have r0 := blkCell hres (i := 0) rfl
    have r1 := blkCell hres (i := 1) rfl
    have r2 := blkCell hres (i := 2) rfl
    have g0 := blkFree (i := 0) hres
    have g1 := blkFree (i := 1) hres
    have g2 := blkFree (i := 2) hres
    go_wp2_with (go_at_call 232; refine (HN.out _).mono ?_; rintro e w' ⟨rfl, rfl⟩)
    refine bodyPost_ret (v := .tuple #[.agg #[.int .u8 105, .int .i64 n, .string ⟨#[]⟩], .bool b]) (by simp [results, Tryz.results241, go_sem, *]) rfl ⟨rfl, ((hbw.setCell (Nat.le_refl _) _).setCell (Nat.le_refl _) _).setCell (Nat.le_refl _) _⟩
  · have h2' : (2 : Int) ≤ (s.size : Int) := by omega
    go_enter Tryz.func241, Tryz.ntmps241
    go_upto_region 6 with fail
    generalize w.alloc (.cells #[.int .u8 0, .int .i64 0, .string ⟨#[]⟩] 310) = W at *
    have r0 := blkCell hres (i := 0) rfl
    have r1 := blkCell hres (i := 1) rfl
    have r2 := blkCell hres (i := 2) rfl
    have g0 := blkFree (i := 0) hres
    have g1 := blkFree (i := 1) hres
    have g2 := blkFree (i := 2) hres
    go_wp2_with (go_at_call 232; refine (HN.out _).mono ?_; rintro e w' ⟨rfl, rfl⟩)
    refine bodyPost_ret (v := .tuple #[.agg #[.int .u8 105, .int .i64 n, .string ⟨#[]⟩], .bool b]) (by simp [results, Tryz.results241, go_sem, *]) rfl ⟨rfl, ((hbw.setCell (Nat.le_refl _) _).setCell (Nat.le_refl _) _).setCell (Nat.le_refl _) _⟩
  · have h2' : (2 : Int) ≤ (s.size : Int) := by omega
    go_enter Tryz.func241, Tryz.ntmps241
    go_upto_region 6 with fail
    all_goals
      generalize w.alloc (.cells #[.int .u8 0, .int .i64 0, .string ⟨#[]⟩] 310) = W at *
      have r0 := blkCell hres (i := 0) rfl
      have r1 := blkCell hres (i := 1) rfl
      have r2 := blkCell hres (i := 2) rfl
      have g0 := blkFree (i := 0) hres
      have g1 := blkFree (i := 1) hres
      have g2 := blkFree (i := 2) hres
      go_wp2_with (go_at_call 232; refine (HN.out _).mono ?_; rintro e w' ⟨rfl, rfl⟩)
      refine bodyPost_ret (v := .tuple #[.agg #[.int .u8 105, .int .i64 n, .string ⟨#[]⟩], .bool b]) (by simp [results, Tryz.results241, go_sem, *]) rfl ⟨rfl, ((hbw.setCell (Nat.le_refl _) _).setCell (Nat.le_refl _) _).setCell (Nat.le_refl _) _⟩
set_option maxHeartbeats 4000000 in
set_option maxRecDepth 100000 in
theorem rread_word (s : ByteArray) (w : World) (hs : s.size ≤ 2000000) (hn : (s.toList == [110, 117, 108, 108]) = false) (h2 : 2 ≤ s.size) (h0 : ((s[0].toNat : Int) == 39) = true) (h9 : ((s[s.size - 1].toNat : Int) == 39) = true)
    : Calls Tryz.prog 241 #[.string s] w fun e w' => e = .returned (.tuple #[.agg #[.int .u8 116, .int .i64 0, .string (s.extract 1 (s.size - 1))], .bool (wordB (s.extract 1 (s.size - 1)).data.toList)]) ∧ Below w.heap.size w w' := by
  have hbw : Below w.heap.size w (w.alloc (.cells #[.int .u8 0, .int .i64 0, .string ⟨#[]⟩] 310)) := (Below.refl _ _).alloc (Nat.le_refl _) _
  have hres := res_new w
  have HN := hide (fun w => word_any (s.extract 1 (s.size - 1)) w (by unfold maxLen; have := extB s 1 (s.size - 1); omega))
  generalize wordB (s.extract 1 (s.size - 1)).data.toList = b at *
  have h2' : (2 : Int) ≤ (s.size : Int) := by omega
  have h1a : (1 : Int) ≤ (s.size : Int) - 1 := by omega
  have h1b : (s.size : Int) - 1 ≤ (s.size : Int) := by omega
  go_enter Tryz.func241, Tryz.ntmps241
  go_upto_region 4 with fail
  generalize w.alloc (.cells #[.int .u8 0, .int .i64 0, .string ⟨#[]⟩] 310) = W at *
  have r0 := blkCell hres (i := 0) rfl
  have r1 := blkCell hres (i := 1) rfl
  have r2 := blkCell hres (i := 2) rfl
  have g0 := blkFree (i := 0) hres
  have g1 := blkFree (i := 1) hres
  have g2 := blkFree (i := 2) hres
  go_wp2_with (go_at_call 239; refine (HN.out _).mono ?_; rintro e w' ⟨rfl, rfl⟩)
  refine bodyPost_ret (v := .tuple #[.agg #[.int .u8 116, .int .i64 0, .string (s.extract 1 (s.size - 1))], .bool b]) (by simp [results, Tryz.results241, go_sem, *]) rfl ⟨rfl, ((hbw.setCell (Nat.le_refl _) _).setCell (Nat.le_refl _) _).setCell (Nat.le_refl _) _⟩
set_option maxHeartbeats 4000000 in
theorem rread_null (w : World) : Calls Tryz.prog 241 #[.string ⟨#[110, 117, 108, 108]⟩] w fun e w' => e = .returned (.tuple #[.agg #[.int .u8 110, .int .i64 0, .string ⟨#[]⟩], .bool true]) ∧ Below w.heap.size w w' := by
  have hbw : Below w.heap.size w (w.alloc (.cells #[.int .u8 0, .int .i64 0, .string ⟨#[]⟩] 310)) := (Below.refl _ _).alloc (Nat.le_refl _) _
  have hres := res_new w
  go_enter Tryz.func241, Tryz.ntmps241
  go_upto_region 2 with fail
  generalize w.alloc (.cells #[.int .u8 0, .int .i64 0, .string ⟨#[]⟩] 310) = W at *
  have r0 := blkCell hres (i := 0) rfl
  have r1 := blkCell hres (i := 1) rfl
  have r2 := blkCell hres (i := 2) rfl
  have g0 := blkFree (i := 0) hres
  have g1 := blkFree (i := 1) hres
  have g2 := blkFree (i := 2) hres
  go_wp2_with fail
  refine bodyPost_ret (v := .tuple #[.agg #[.int .u8 110, .int .i64 0, .string ⟨#[]⟩], .bool true]) (by simp [results, Tryz.results241, go_sem, *]) rfl ⟨rfl, ((hbw.setCell (Nat.le_refl _) _).setCell (Nat.le_refl _) _).setCell (Nat.le_refl _) _⟩
theorem head_at {s : ByteArray} (h : 0 < s.size) : s.data.toList.head? = some s[0] := by
  rw [List.head?_eq_getElem?, List.getElem?_eq_getElem (by rw [lenB]; exact h)]; rfl
theorem byte_eq {c : UInt8} : ((c.toNat : Int) == 39) = true ↔ c = 39 := by
  rw [beq_iff_eq]
  constructor
  · intro h; exact UInt8.toNat_inj.1 (by show c.toNat = 39; omega)
  · rintro rfl; rfl
theorem rread_any (s : ByteArray) (w : World) (hs : s.size ≤ 2000000) : Calls Tryz.prog 241 #[.string s] w (ReadV s w) := by
  by_cases hn : s.data.toList = [110, 117, 108, 108]
  · obtain rfl : s = ⟨#[110, 117, 108, 108]⟩ := bytesL_inj hn
    refine (rread_null w).mono ?_
    rintro e w' ⟨rfl, hb⟩
    exact ⟨⟨110, 0, ⟨#[]⟩, rfl, fun _ => ⟨rfl, rfl, rfl⟩⟩, hb⟩
  · have hn' : (s.toList == [110, 117, 108, 108]) = false := by rw [beq_eq_false_iff_ne, ByteArray.toList_eq]; exact hn
    have numWay : (∃ (_ : ¬ s.data.toList.head? = some 39), True) ∨ (valRes s.data.toList = (Vl.zero, false) ∧ (numRes s.data.toList).2 = false) → (s.size < 2 ∨ ∃ h : 2 ≤ s.size, ((s[0].toNat : Int) == 39) = false ∨ ((s[s.size - 1].toNat : Int) == 39) = false) → Calls Tryz.prog 241 #[.string s] w (ReadV s w) := by
      intro h hq
      refine (rread_num s w hs hn' hq).mono ?_
      rintro e w' ⟨rfl, hb⟩
      refine ⟨⟨105, (numRes s.data.toList).1, ⟨#[]⟩, ?_, ?_⟩, hb⟩
      · rcases h with ⟨h0, _⟩ | ⟨h1, h2⟩
        · rw [valRes_num hn h0]
          cases hr : (numRes s.data.toList).2 <;> rfl
        · rw [h1, h2]
      · intro hv
        rcases h with ⟨h0, _⟩ | ⟨h1, h2⟩
        · rw [valRes_num hn h0] at hv ⊢
          cases hr : (numRes s.data.toList).2
          · rw [hr] at hv; cases hv
          · exact ⟨rfl, rfl, rfl⟩
        · rw [h1] at hv; cases hv
    by_cases h2 : 2 ≤ s.size
    · by_cases h0 : s[0] = 39
      · have hh : s.data.toList.head? = some 39 := by rw [head_at (by omega), h0]
        by_cases h9 : s[s.size - 1] = 39
        · refine (rread_word s w hs hn' h2 (byte_eq.2 h0) (byte_eq.2 h9)).mono ?_
          rintro e w' ⟨rfl, hb⟩
          refine ⟨⟨116, 0, s.extract 1 (s.size - 1), ?_, ?_⟩, hb⟩
          · rw [valRes_word h2 hh h9]
            cases wordB (s.extract 1 (s.size - 1)).data.toList <;> rfl
          · intro hv
            rw [valRes_word h2 hh h9] at hv ⊢
            cases hb : wordB (s.extract 1 (s.size - 1)).data.toList
            · rw [hb] at hv; cases hv
            · exact ⟨rfl, rfl, rfl⟩
        · exact numWay (.inr ⟨valRes_open hh (.inr ⟨h2, h9⟩), num_quote hh⟩) (.inr ⟨h2, .inr (by cases hc : ((s[s.size - 1].toNat : Int) == 39) with | false => rfl | true => exact absurd (byte_eq.1 hc) h9)⟩)
      · refine numWay (.inl ⟨?_, trivial⟩) (.inr ⟨h2, .inl (by cases hc : ((s[0].toNat : Int) == 39) with | false => rfl | true => exact absurd (byte_eq.1 hc) h0)⟩)
        rw [head_at (by omega)]
        exact fun e => h0 (Option.some.inj e)
    · by_cases h0 : s.data.toList.head? = some 39
      · exact numWay (.inr ⟨valRes_open h0 (.inl (by omega)), num_quote h0⟩) (.inl (by omega))
      · exact numWay (.inl ⟨h0, trivial⟩) (.inl (by omega))
end Go.Proofs.YtbkeflgafjnefaaGreatDoor
namespace Go.Proofs.YtbkeflgafjnefaaGreatDoor
open Go.RowKit
open Trib
def rcolCells (l : List (ByteArray × Nat)) : List Value := l.flatMap fun c => [.string c.1, .int .u8 (tyB c.2)]
theorem rcolCells_snoc (l : List (ByteArray × Nat)) (c : ByteArray × Nat) : rcolCells (l ++ [c]) = rcolCells l ++ [.string c.1, .int .u8 (tyB c.2)] := by simp [rcolCells]
theorem rcolCells_at (l : List (ByteArray × Nat)) (p : Nat) (h : p < l.length) : (rcolCells l)[p * 2]? = some (.string l[p].1) ∧ (rcolCells l)[p * 2 + 1]? = some (.int .u8 (tyB l[p].2)) := by
  induction l generalizing p with
  | nil => exact absurd h (Nat.not_lt_zero _)
  | cons a r ih =>
    have e : rcolCells (a :: r) = [.string a.1, .int .u8 (tyB a.2)] ++ rcolCells r := by simp [rcolCells]
    rw [e]
    cases p with
    | zero => exact ⟨rfl, rfl⟩
    | succ p =>
      have := ih p (by simpa using h)
      rw [List.getElem?_append_right (by simp; omega), List.getElem?_append_right (by simp; omega)]
      have e1 : (p + 1) * 2 - [Value.string a.1, Value.int IntKind.u8 (tyB a.2)].length = p * 2 := by simp; omega
      have e2 : (p + 1) * 2 + 1 - [Value.string a.1, Value.int IntKind.u8 (tyB a.2)].length = p * 2 + 1 := by simp; omega
      rw [e1, e2]; simpa using this
theorem colOf_two {p : ByteArray} {n k : ByteArray} (h : splitB 58 p.data.toList = [n, k].map (·.data.toList)) : colOf p.data.toList = if nameB n.data.toList then (if k.data.toList = [105] then some (n, 1) else if k.data.toList = [116] then some (n, 2) else none) else none := by
  unfold colOf
  rw [h]
  simp only [List.map_cons, List.map_nil]
  cases nameB n.data.toList with
  | false => simp
  | true =>
    by_cases h1 : k.data.toList = [105]
    · simp [h1, bytesL_of]
    · by_cases h2 : k.data.toList = [116]
      · simp [h2, bytesL_of]
      · simp [h1, h2]
theorem colOf_else {p : ByteArray} {qs : List ByteArray} (h : splitB 58 p.data.toList = qs.map (·.data.toList)) (hl : qs.length ≠ 2) : colOf p.data.toList = none := by
  unfold colOf
  rw [h]
  match qs, hl with
  | [], _ => rfl
  | [_], _ => rfl
  | [_, _], hl => exact absurd rfl hl
  | _ :: _ :: _ :: _, _ => rfl
/-- The columns up to a piece. -/
def ColsTo (cols : ByteArray) (ts : List ByteArray) (j : Nat) (l : List (ByteArray × Nat)) : Prop := colsOf cols.data.toList = (if 4 < ts.length then none else allOf colOf (ts.map (·.data.toList))) ∧ allOf colOf ((ts.take j).map (·.data.toList)) = some l ∧ l.length = j
theorem ColsTo.next {cols : ByteArray} {ts : List ByteArray} {j : Nat} {l : List (ByteArray × Nat)} (h : ColsTo cols ts j l) (hj : j < ts.length) {c : ByteArray × Nat} (hc : colOf ts[j].data.toList = some c) : ColsTo cols ts (j + 1) (l ++ [c]) := by
  refine ⟨h.1, ?_, by rw [List.length_append, h.2.2]; rfl⟩
  rw [List.take_succ_eq_append_getElem hj, List.map_append, List.map_cons, List.map_nil, allOf_snoc, h.2.1, hc]; rfl
theorem ColsTo.bad {cols : ByteArray} {ts : List ByteArray} {j : Nat} {l : List (ByteArray × Nat)} (h : ColsTo cols ts j l) (hj : j < ts.length) (hc : colOf ts[j].data.toList = none) : colsOf cols.data.toList = none := by
  rw [h.1, allOf_none colOf (ts.map (·.data.toList)) ts[j].data.toList (List.mem_map_of_mem (f := fun x : ByteArray => x.data.toList) (List.getElem_mem hj)) hc]
  split <;> rfl
theorem ColsTo.many {cols : ByteArray} {ts : List ByteArray} {j : Nat} {l : List (ByteArray × Nat)} (h : ColsTo cols ts j l) (hj : 4 < ts.length) : colsOf cols.data.toList = none := by
  rw [h.1, if_pos hj]
theorem ColsTo.all {cols : ByteArray} {ts : List ByteArray} {j : Nat} {l : List (ByteArray × Nat)} (h : ColsTo cols ts j l) (hj : j = ts.length) (h4 : ts.length ≤ 4) : colsOf cols.data.toList = some l := by
  rw [h.1, if_neg (by omega), ← h.2.1, hj, List.take_length]
/-- What Create's number is. -/
def creN (names : List ByteArray) (name cols : ByteArray) : Nat :=
  if nameB name.data.toList then
    match colsOf cols.data.toList with
    | none => 1
    | some l => if (firstB names name).isSome || name == logB || name == touchB || twins l then 3 else if 6 ≤ names.length then 7 else 0
  else 1
theorem infoRCol : (Tryz.prog.info? 285).map (fun i => (i.zero, i.size, i.bytes)) = some (some (.agg #[.string ⟨#[]⟩, .int .u8 0]), 2, 24) := by kernel_rfl
theorem infoRPtr : (Tryz.prog.info? 287).map (fun i => (i.zero, i.size, i.bytes)) = some (some (.pointer none), 1, 8) := by kernel_rfl
theorem infoInt : (Tryz.prog.info? 3).map (fun i => (i.zero, i.size, i.bytes)) = some (some (.int .i64 0), 1, 8) := by kernel_rfl
end Go.Proofs.YtbkeflgafjnefaaGreatDoor
