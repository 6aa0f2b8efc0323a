/- Towards the law of tables: S7, T1, T2, T3, T4. -/
import Derived.Test.YtbkeflgafjnefaaGreatDoorM26
import Derived.Test.YtbkeflgafjnefaaGreatDoorM07
namespace Go.Proofs.YtbkeflgafjnefaaGreatDoor
open Go.RowKit
open Trib
theorem infoPTab : (Tryz.prog.info? 136).map (fun i => (i.zero, i.size, i.bytes)) = some (some (.pointer none), 1, 8) := by kernel_rfl
theorem one_new (w : World) (a : Value) (t : TypeId) : ∀ j u, ([a] : List Value)[j]? = some u → (w.alloc (.cells #[a] t)).cell? ((⟨w.heap.size, 0, none⟩ : Addr).add j) = some u :=
  World.news_of_block (cs := #[a]) (heap_alloc_new w _)
/-- New blocks get the colour n, but for one. -/
def cMk (c : Nat → Nat) (w : World) (g n q : Nat) : Nat := if q < w.heap.size then c q else if q = g then 0 else n
theorem cMk_old {c : Nat → Nat} {w : World} {g n q : Nat} (h : q < w.heap.size) : cMk c w g n q = c q := if_pos h
theorem cMk_row {c : Nat → Nat} {w : World} {g n : Nat} (h : w.heap.size ≤ g) : cMk c w g n g = 0 := by unfold cMk; rw [if_neg (by omega), if_pos rfl]
theorem cMk_new {c : Nat → Nat} {w : World} {g n q : Nat} (h : w.heap.size ≤ q) (hq : q ≠ g) : cMk c w g n q = n := by unfold cMk; rw [if_neg (by omega), if_neg hq]
theorem create_close {F : Nat → Prop} {w : World} {b : Nat} {ex : Ex} {g : Eng} {c : Nat → Nat} {tv : Value} {bs : List Nat} (e0 : bs.length = g.tables.length) (e1 : Blk (colr F c 0) w b #[tv, ex.a, ex.b, ex.c, ex.d, ex.e, .int .i64 g.clock] 118) (e2 : RowF (colr F c 0) w 136 1 tv bs.length (ptrs bs)) (e3 : ∀ i (h : i < bs.length) (h2 : i < g.tables.length), TbAt (colr F c (i + 1)) w bs[i] g.tables[i])
    (name : ByteArray) (l : List (ByteArray × Nat)) {w5 w6 : World} (h5 : Below w.heap.size w w5) {k : Nat} (hk : w.heap.size ≤ k) {cv : Value} (htb5 : w5.heap[k]? = some (.cells #[.string name, cv, .slice none 0 0, .int .i64 0] 233 (0, 0))) (hC5 : w5.ownsRow w.heap.size 228 2 cv l.length (colCells l))
    (hs6 : Stp (fun q => tv.ownBlock = some q) w5 w6) {g6 cap6 : Nat} (hown6 : w6.ownsRow 0 136 1 (.slice (some ⟨g6, 0, none⟩) (bs.length + 1) cap6) (bs.length + 1) (ptrs bs ++ [.pointer (some ⟨k, 0, none⟩)])) (hat6 : tv.ownBlock = some g6 ∨ w5.heap.size ≤ g6) :
    EngAt (Gro F w) (w6.setCell ⟨b, 0, none⟩ (.slice (some ⟨g6, 0, none⟩) (bs.length + 1) cap6)) b ex { g with tables := g.tables ++ [⟨name, l, [], 0⟩] } ∧ Stp F w (w6.setCell ⟨b, 0, none⟩ (.slice (some ⟨g6, 0, none⟩) (bs.length + 1) cap6)) := by
  have z5 := h5.size
  have hbl := e1.lt
  have hk5 : k < w5.heap.size := (Array.getElem?_eq_some_iff.1 htb5).1
  have htl : ∀ q, tv.ownBlock = some q → q < w.heap.size := fun q hq => (e2.1.lt q hq).2
  have hst0 : Stp (colr F c 0) w (w6.setCell ⟨b, 0, none⟩ (.slice (some ⟨g6, 0, none⟩) (bs.length + 1) cap6)) := ((Stp.of h5).andThen (hs6.mono (fun q _ hq => e2.2 q hq))).andThen (Stp.set b 0 _ e1.1)
  have hB6 : w6.heap[b]? = some (.cells #[tv, ex.a, ex.b, ex.c, ex.d, ex.e, .int .i64 g.clock] 118 (0, 0)) := (hs6.block b (by omega) (e2.apart e1.2 (by decide))).trans ((h5.block b hbl).trans e1.2)
  have hgb : g6 ≠ b := fun e => by
    have := RowF.apart (F := fun _ => True) ⟨hown6, fun _ _ => trivial⟩ hB6 (by decide)
    exact this (by rw [e]; rfl)
  refine ⟨⟨cMk c w g6 (bs.length + 1), .slice (some ⟨g6, 0, none⟩) (bs.length + 1) cap6, bs ++ [k], by simp [e0], ?_, ?_, ?_⟩, hst0.mono (fun _ _ h => h.1)⟩
  · refine ⟨⟨Gro.any e1.1.1, (cMk_old hbl).trans e1.1.2⟩, ?_⟩
    exact (Blk.set (F := fun _ => True) ⟨trivial, hB6⟩ 0 _).2
  · have hr := RowF.set (F := fun _ => True) ⟨hown6, fun _ _ => trivial⟩ (b := b) (by simp [Value.ownBlock, hgb]) 0 (.slice (some ⟨g6, 0, none⟩) (bs.length + 1) cap6)
    refine ⟨by rw [List.length_append]; simpa [ptrs] using hr.1, fun q hq => ?_⟩
    obtain rfl : g6 = q := by simpa [Value.ownBlock] using hq
    rcases hat6 with h | h
    · have hq := e2.2 _ h
      exact ⟨Gro.any hq.1, (cMk_old (htl _ h)).trans hq.2⟩
    · exact ⟨Gro.new (by omega), cMk_row (by omega)⟩
  · intro i h1 h2
    have h2' : i < g.tables.length + 1 := by simpa using h2
    by_cases hi : i < bs.length
    · have hi2 : i < g.tables.length := by omega
      have ea : (bs ++ [k])[i] = bs[i] := List.getElem_append_left hi
      have eb : (g.tables ++ [(⟨name, l, [], 0⟩ : Tb)])[i]'(by simpa using h2') = g.tables[i] := List.getElem_append_left hi2
      show TbAt _ _ ((bs ++ [k])[i]) ((g.tables ++ [(⟨name, l, [], 0⟩ : Tb)])[i]'(by simpa using h2'))
      rw [ea, eb]
      exact (e3 i hi hi2).move (fun q hq hF => ⟨⟨Gro.old hq hF.1, (cMk_old hq).trans hF.2⟩, hst0.block q hq (fun h => by have a := hF.2; have b := h.2; omega)⟩)
    · have hie : i = bs.length := by omega
      subst hie
      have ea : (bs ++ [k])[bs.length]'(by simp) = k := by simp
      have eb : (g.tables ++ [(⟨name, l, [], 0⟩ : Tb)])[bs.length]'(by simp [e0]) = ⟨name, l, [], 0⟩ := by simp [e0]
      show TbAt _ _ ((bs ++ [k])[bs.length]'(by simp)) ((g.tables ++ [(⟨name, l, [], 0⟩ : Tb)])[bs.length]'(by simp [e0]))
      rw [ea, eb]
      have hnew : TbAt (fun q => w.heap.size ≤ q) w5 k ⟨name, l, [], 0⟩ := ⟨cv, .slice none 0 0, [], ⟨hk, htb5⟩, RowF.new hC5 (fun _ h => h), RowF.nil _ _ _ _, trivial⟩
      refine hnew.move (fun q hq hF => ⟨⟨Gro.new hF, ?_⟩, ?_⟩)
      · refine cMk_new hF ?_
        rintro rfl
        rcases hat6 with h | h
        · have := htl _ h; omega
        · omega
      · refine (Below.heap_setCell _ _ _ q (by show q ≠ b; omega)).trans (hs6.block q hq (fun h => ?_))
        have := htl _ h
        omega
section
variable {F : Nat → Prop} {w : World} {b : Nat} {ex : Ex} {g : Eng} {N : Nat} (h : EngAt F w b ex g) (ok : EngOk N g) (hg : Glob w) (name cols : ByteArray) (hs1 : name.size ≤ 2000000) (hs2 : cols.size ≤ 2000000)
include h ok hg hs1 hs2
set_option maxHeartbeats 4000000 in
set_option maxRecDepth 100000 in
theorem ecreate_last (l : List (ByteArray × Nat)) (hc : colsOf cols.data.toList = some l) (hn : nameB name.data.toList = true) (h3 : ((findT g.tables name).isSome || name == logB || name == touchB || twins l) = false) : Calls Tryz.prog 38 #[.pointer (some ⟨b, 0, none⟩), .string name, .string cols] w (CreP F w b ex (createE g name cols)) := by
  have hl := colsOf_len hc
  have HR := hide (readColumns_any cols w hg hs2)
  unfold ColsPost at HR
  rw [hc] at HR
  have h6 := ok.six
  have HN : Hid (∀ w', Below w.heap.size w w' → Calls Tryz.prog 69 #[.string name] w' fun e w2 => e = .returned (.bool true) ∧ w' = w2) := hide (fun w' hb => by
    have := isName_any name w' (hg.below hb hg.big) hs1
    rw [hn] at this
    exact this)
  have hE := h
  obtain ⟨c, tv, bs, e0, e1, e2, e3⟩ := h
  have HF : Hid (∀ w', Below w.heap.size w w' → w'.cell? ⟨b, 0, none⟩ = some tv ∧ Calls Tryz.prog 70 #[tv, .string name] w' fun e w2 => e = .returned (atB bs (findT g.tables name)) ∧ w' = w2) := hide (fun w' hb => ⟨(e1.move (Mov.stay hb)).cell (i := 0) rfl, EngAt.find e0 (e2.move (Mov.stay hb)) (fun i h h' => (e3 i h h').move (Mov.stay hb)) ok.six name⟩)
  have HH := hide (hasTable_any name)
  have hf : findT g.tables name = none := by
    cases hf : findT g.tables name with
    | none => rfl
    | some i => rw [hf] at h3; simp at h3
  have ht : twins l = false := by
    cases ht : twins l with
    | false => rfl
    | true => rw [ht] at h3; simp at h3
  have hx : (name == logB || name == touchB) = false := by
    cases hx : (name == logB || name == touchB) with
    | false => rfl
    | true => rw [hf] at h3; simp only [Option.isSome_none, Bool.false_or] at h3; rw [hx] at h3; simp at h3
  rw [hf, show atB bs none = .pointer none from rfl] at HF
  rw [hx] at HH
  have HT : Hid (∀ (w' : World) (v : Value), w'.ownsRow w.heap.size 228 2 v l.length (colCells l) → Calls Tryz.prog 72 #[v] w' fun e w2 => e = .returned (.bool false) ∧ Below w'.heap.size w' w2) := hide (fun w' v hr => by
    have := hasTwins_any v l _ w' hr (by omega)
    rw [ht] at this
    exact this)
  obtain ⟨ta, tcap, rfl⟩ := e2.shape
  by_cases hfull : 6 ≤ g.tables.length
  · rw [createE_full hn hc h3 hfull]
    have HE : Hid (∀ w', Below w.heap.size w w' → CreP F w b ex (7, g) (.returned (.int .i64 7)) w') := hide (fun w' hb => ⟨rfl, hE.move (Mov.gro hb), Stp.of hb⟩)
    have hfi : (6 : Int) ≤ (bs.length : Int) := by omega
    clear hg hc hn e0 e1 e2 e3 h3 hf ht hx hE
    go_enter Tryz.func38, Tryz.ntmps38
    go_wp2_with (first | (go_at_call 68; refine HR.out.mono ?_; rintro e w2 ⟨⟨v, rfl, hrow2⟩, hb2⟩; have c0 := (HF.out w2 hb2).1) | (go_at_call 69; refine (HN.out w2 hb2).mono ?_; rintro e w3 ⟨rfl, rfl⟩) | (go_at_call 70; refine (HF.out w2 hb2).2.mono ?_; rintro e w3 ⟨rfl, rfl⟩) | (go_at_call 71; refine (HH.out w2).mono ?_; rintro e w3 ⟨rfl, rfl⟩) | (go_at_call 72; refine (HT.out w2 v hrow2).mono ?_; rintro e w3 ⟨rfl, hb3⟩; have c3 := (HF.out w3 (hb2.trans (hb3.mono hb2.size))).1))
    go_ret
    exact HE.out w3 (hb2.trans (hb3.mono hb2.size))
  · rw [createE_new hn hc h3 hfull]
    have hfi : (bs.length : Int) < 6 := by omega
    obtain ⟨i0, hi, hz0, hz1, hz2⟩ := info_parts infoPTab
    have hb1 := e1.lt
    have HE1 := hide e1
    have HE2 := hide e2
    have HE3 := hide e3
    have HE0 := hide e0
    have hbl : bs.length ≤ 6 := by omega
    clear hg hc hn e0 e1 e2 e3 h3 hf ht hx hE
    go_enter Tryz.func38, Tryz.ntmps38
    go_upto_region 8 with (first | (go_at_call 68; refine HR.out.mono ?_; rintro e w2 ⟨⟨v, rfl, hrow2⟩, hb2⟩; have c0 := (HF.out w2 hb2).1) | (go_at_call 69; refine (HN.out w2 hb2).mono ?_; rintro e w3 ⟨rfl, rfl⟩) | (go_at_call 70; refine (HF.out w2 hb2).2.mono ?_; rintro e w3 ⟨rfl, rfl⟩) | (go_at_call 71; refine (HH.out w2).mono ?_; rintro e w3 ⟨rfl, rfl⟩) | (go_at_call 72; refine (HT.out w2 v hrow2).mono ?_; rintro e w3 ⟨rfl, hb3⟩; have c3 := (HF.out w3 (hb2.trans (hb3.mono hb2.size))).1))
    have hb := hb2.trans (hb3.mono hb2.size)
    obtain ⟨va, vcap, rfl⟩ := row_shape hrow2
    have hB3 := HE1.out.move (Mov.stay hb)
    have hR3 := HE2.out.move (Mov.stay hb)
    have hC3 := row_below hrow2 hb3
    have z3 := hb.size
    have HB5 : Hid (∀ w5, Below w3.heap.size w3 w5 → Blk (colr F c 0) w5 b #[.slice ta bs.length tcap, ex.a, ex.b, ex.c, ex.d, ex.e, .int .i64 g.clock] 118 ∧ RowF (colr F c 0) w5 136 1 (.slice ta bs.length tcap) bs.length (ptrs bs)) := hide (fun w5 h5 => ⟨hB3.move (Mov.stay h5), hR3.move (Mov.stay h5)⟩)
    clear HR HN HH HT HF c0 hfi
    go_region_law (first
      | (go_simp; go_at_call 73; refine (tnew_any name va l.length vcap _ hs1).mono ?_; rintro e w5 ⟨k, hk, rfl, htb5, hb5⟩; have hbb : Below w3.heap.size w3 w5 := ⟨hb5.os, hb5.tape, hb5.output, hb5.size, hb5.block⟩; have hB5 := (HB5.out w5 hbb).1; have hR5 := (HB5.out w5 hbb).2; have c5 := hB5.cell (i := 0) rfl; have hlt5 := hB5.lt; have hne5 : ¬ b = w5.heap.size := Nat.ne_of_lt hlt5)
      | (refine step_append_lies _ (by rfl) _ _ 110 (by rfl) 0 136 i0 (.pointer none) 1 8 Tryz.underlying110 hi hz0 hz1 hz2 rfl (by decide) (.slice ta bs.length tcap) bs.length (ptrs bs) (by rfl) (hR5.1.alloc _) ⟨w5.heap.size, 0, none⟩ 1 1 [.pointer (some ⟨k, 0, none⟩)] (by rfl) (by rfl) (one_new _ _ _) (by simp [Value.oneCell']) (by decide) (by unfold maxLen; omega) (by omega) (Nat.zero_le _) (w5.heap.size + 1) (by simp) ?_; intro g6 cap6 w6 hown6 hgrow6 hat6 hlt6; have hB6 := (hgrow6.block b (by have := hB5.lt; simp; omega) (fun e => hR5.apart hB5.2 (by decide) e.symm)).trans ((Below.heap_alloc w5 _ b hB5.lt).trans hB5.2); have d0 := Blk.cell (F := fun _ => True) ⟨trivial, hB6⟩ (i := 0) rfl; have f0 := Blk.free (F := fun _ => True) ⟨trivial, hB6⟩ (i := 0)))
    all_goals
      have h5 : Below w.heap.size w w5 := hb.trans (hbb.mono z3)
      have hk' : w.heap.size ≤ k := Nat.le_trans z3 hk
      have hs6 : Stp (fun q => (Value.slice ta bs.length tcap).ownBlock = some q) w5 w6 := (Stp.of ((Below.refl _ _).alloc (Nat.le_refl _) _)).andThen (Stp.grown hgrow6 (fun q e => e))
      have HOK := hide (create_close HE0.out HE1.out HE2.out HE3.out name l h5 hk' htb5 (row_below hC3 hbb) hs6 hown6 (hat6.imp id (fun e => by omega)))
      clear h5 hk' hs6 HE0 HE1 HE2 HE3 hB3 hR3 hC3 HB5 hB5 hR5 hB6 hown6 hgrow6 hat6 htb5 hb5 hbb
      go_wp2_with fail
      go_ret
      exact ⟨rfl, HOK.out⟩
theorem ecreate_any : Calls Tryz.prog 38 #[.pointer (some ⟨b, 0, none⟩), .string name, .string cols] w (CreP F w b ex (createE g name cols)) := by
  cases hc : colsOf cols.data.toList with
  | none => exact ecreate_text1 h hg name cols hs2 hc
  | some l =>
    cases hn : nameB name.data.toList with
    | false => exact ecreate_text2 h hg name cols hs1 hs2 l hc hn
    | true =>
      cases h3 : ((findT g.tables name).isSome || name == logB || name == touchB || twins l) with
      | false => exact ecreate_last h ok hg name cols hs1 hs2 l hc hn h3
      | true => exact ecreate_name h ok hg name cols hs1 hs2 l hc hn h3
end
end Go.Proofs.YtbkeflgafjnefaaGreatDoor
namespace Go.Proofs.YtbkeflgafjnefaaGreatDoor
open Go.RowKit
open Trib
def rvlCells (l : List Vl) : List Value := l.flatMap fun v => [.int .u8 (tyB v.kind), .int .i64 v.num, .string (bytesL v.word)]
theorem rvlCells_snoc (l : List Vl) (v : Vl) : rvlCells (l ++ [v]) = rvlCells l ++ [.int .u8 (tyB v.kind), .int .i64 v.num, .string (bytesL v.word)] := by simp [rvlCells]
theorem rvlCells_at (l : List Vl) (p : Nat) (h : p < l.length) : (rvlCells l)[p * 3]? = some (.int .u8 (tyB l[p].kind)) := by
  induction l generalizing p with
  | nil => exact absurd h (Nat.not_lt_zero _)
  | cons a r ih =>
    have e : rvlCells (a :: r) = [.int .u8 (tyB a.kind), .int .i64 a.num, .string (bytesL a.word)] ++ rvlCells r := by simp [rvlCells]
    rw [e]
    cases p with
    | zero => rfl
    | succ p =>
      have := ih p (by simpa using h)
      rw [List.getElem?_append_right (by simp; omega)]
      have e0 : ([Value.int IntKind.u8 (tyB a.kind), Value.int IntKind.i64 a.num, Value.string (bytesL a.word)] : List Value).length = 3 := rfl
      have e1 : (p + 1) * 3 - 3 = p * 3 := by omega
      rw [e0, e1]; simpa using this
/-- The rows of a table of the document's. -/
def RRowsAre (F : Nat → Prop) (w : World) : List (Nat × Value) → List (Nat × List Vl) → Prop
  | [], [] => True
  | a :: r, b :: s => (a.1 = b.1 ∧ RowF F w 310 3 a.2 b.2.length (rvlCells b.2)) ∧ RRowsAre F w r s
  | _, _ => False
theorem RRowsAre.len {F : Nat → Prop} {w : World} : ∀ {rs : List (Nat × Value)} {l : List (Nat × List Vl)}, RRowsAre F w rs l → rs.length = l.length
  | [], [], _ => rfl
  | _ :: _, _ :: _, h => by rw [List.length_cons, List.length_cons, RRowsAre.len h.2]
  | [], _ :: _, h => h.elim
  | _ :: _, [], h => h.elim
theorem RRowsAre.keep {F F' : Nat → Prop} {w w' : World} (m : ∀ {x : Value} {n : Nat} {xs : List Value}, RowF F w 310 3 x n xs → RowF F' w' 310 3 x n xs) : ∀ {rs : List (Nat × Value)} {l : List (Nat × List Vl)}, RRowsAre F w rs l → RRowsAre F' w' rs l
  | [], [], _ => trivial
  | _ :: _, _ :: _, h => ⟨⟨h.1.1, m h.1.2⟩, RRowsAre.keep m h.2⟩
  | [], _ :: _, h => h.elim
  | _ :: _, [], h => h.elim
theorem RRowsAre.move {F F' : Nat → Prop} {w w' : World} (m : Mov F F' w w') {rs : List (Nat × Value)} {l : List (Nat × List Vl)} (h : RRowsAre F w rs l) : RRowsAre F' w' rs l := h.keep (fun hx => hx.move m)
theorem RRowsAre.snoc {F : Nat → Prop} {w : World} {a : Nat × Value} {b : Nat × List Vl} (h1 : a.1 = b.1) (h2 : RowF F w 310 3 a.2 b.2.length (rvlCells b.2)) : ∀ {rs : List (Nat × Value)} {l : List (Nat × List Vl)}, RRowsAre F w rs l → RRowsAre F w (rs ++ [a]) (l ++ [b])
  | [], [], _ => ⟨⟨h1, h2⟩, trivial⟩
  | _ :: _, _ :: _, h => ⟨h.1, RRowsAre.snoc h1 h2 h.2⟩
  | [], _ :: _, h => h.elim
  | _ :: _, [], h => h.elim
theorem RRowsAre.erase {F : Nat → Prop} {w : World} : ∀ {rs : List (Nat × Value)} {l : List (Nat × List Vl)} (i : Nat), RRowsAre F w rs l → RRowsAre F w (rs.eraseIdx i) (l.eraseIdx i)
  | [], [], _, _ => trivial
  | _ :: _, _ :: _, 0, h => h.2
  | _ :: _, _ :: _, i + 1, h => ⟨h.1, RRowsAre.erase i h.2⟩
  | [], _ :: _, _, h => h.elim
  | _ :: _, [], _, h => h.elim
theorem RRowsAre.find {F : Nat → Prop} {w : World} (m : Int) : ∀ {rs : List (Nat × Value)} {l : List (Nat × List Vl)}, RRowsAre F w rs l → rs.findIdx? (fun r => (r.1 : Int) == m) = l.findIdx? (fun r => (r.1 : Int) == m)
  | [], [], _ => rfl
  | _ :: _, _ :: _, h => by rw [List.findIdx?_cons, List.findIdx?_cons, h.1.1, RRowsAre.find m h.2]
  | [], _ :: _, h => h.elim
  | _ :: _, [], h => h.elim
theorem RRowsAre.one {F : Nat → Prop} {w : World} : ∀ {rs : List (Nat × Value)} {l : List (Nat × List Vl)}, RRowsAre F w rs l → ∀ u ∈ rowCells rs, u.oneCell' = true
  | [], [], _, u, hu => by simp [rowCells] at hu
  | a :: r, _ :: _, h, u, hu => by
    have e : rowCells (a :: r) = .int .i64 (a.1 : Int) :: a.2 :: rowCells r := by simp [rowCells]
    rw [e] at hu
    rcases List.mem_cons.1 hu with rfl | hu
    · rfl
    · rcases List.mem_cons.1 hu with rfl | hu
      · obtain ⟨x, c, e⟩ := h.1.2.shape
        rw [e]; rfl
      · exact RRowsAre.one h.2 u hu
  | [], _ :: _, h, _, _ => h.elim
  | _ :: _, [], h, _, _ => h.elim
/-- A table of the document's in memory. -/
def RTbAt (F : Nat → Prop) (w : World) (b : Nat) (t : Tb) : Prop :=
  ∃ cv rv rs, Blk F w b #[.string t.name, cv, rv] 292 ∧ RowF F w 285 2 cv t.cols.length (rcolCells t.cols) ∧ RowF F w 295 2 rv t.rows.length (rowCells rs) ∧ RRowsAre F w rs t.rows
theorem RTbAt.move {F F' : Nat → Prop} {w w' : World} {b : Nat} {t : Tb} (h : RTbAt F w b t) (m : Mov F F' w w') : RTbAt F' w' b t := by
  obtain ⟨cv, rv, rs, h1, h2, h3, h4⟩ := h
  exact ⟨cv, rv, rs, h1.move m, h2.move m, h3.move m, h4.move m⟩
theorem RTbAt.name {F : Nat → Prop} {w : World} {b : Nat} {t : Tb} (h : RTbAt F w b t) : w.cell? ⟨b, 0, none⟩ = some (.string t.name) := by
  obtain ⟨cv, rv, rs, h1, _⟩ := h
  exact h1.cell (i := 0) rfl
def nexts (l : List Tb) : List Value := l.map fun t => .int .i64 ((t.last + 1 : Nat) : Int)
/-- The document's engine in memory. -/
def REngAt (F : Nat → Prop) (w : World) (b : Nat) (lv gv : Value) (g : Eng) : Prop :=
  ∃ (c : Nat → Nat) (tv nv : Value) (bs : List Nat), bs.length = g.tables.length ∧ Blk (colr F c 0) w b #[tv, nv, lv, gv, .int .i64 g.clock] 91 ∧ RowF (colr F c 0) w 287 1 tv bs.length (ptrsR bs) ∧ RowF (colr F c 0) w 3 1 nv bs.length (nexts g.tables) ∧ ∀ i (h : i < bs.length) (h2 : i < g.tables.length), RTbAt (colr F c (i + 1)) w bs[i] g.tables[i]
theorem REngAt.move {F F' : Nat → Prop} {w w' : World} {b : Nat} {lv gv : Value} {g : Eng} (h : REngAt F w b lv gv g) (m : Mov F F' w w') : REngAt F' w' b lv gv g := by
  obtain ⟨c, tv, nv, bs, h0, h1, h2, h4, h3⟩ := h
  exact ⟨c, tv, nv, bs, h0, h1.move (colr_move m c 0), h2.move (colr_move m c 0), h4.move (colr_move m c 0), fun i h h' => (h3 i h h').move (colr_move m c (i + 1))⟩
theorem REngAt.find {F : Nat → Prop} {w : World} {b : Nat} {lv gv : Value} {g : Eng} {c : Nat → Nat} {tv nv : Value} {bs : List Nat} (h0 : bs.length = g.tables.length) (h1 : Blk (colr F c 0) w b #[tv, nv, lv, gv, .int .i64 g.clock] 91) (h2 : RowF (colr F c 0) w 287 1 tv bs.length (ptrsR bs)) (h3 : ∀ i (h : i < bs.length) (h2 : i < g.tables.length), RTbAt (colr F c (i + 1)) w bs[i] g.tables[i]) (h6 : g.tables.length ≤ 6) (name : ByteArray) :
    Calls Tryz.prog 167 #[.pointer (some ⟨b, 0, none⟩), .string name] w fun e w' => e = .returned (.int .i64 (idxB (findT g.tables name))) ∧ w = w' := by
  rw [← names_first]
  exact rfind_any b tv bs (g.tables.map (·.name)) name 0 w (h1.cell (i := 0) rfl) h2.1 (by rw [List.length_map, h0]) (by omega) (fun i h h' => by
    rw [List.length_map] at h'
    rw [(h3 i h h').name]
    simp)
/-- One table of the document's engine is turned. -/
theorem REngAt.turn {F : Nat → Prop} {w w' : World} {b : Nat} {lv gv : Value} {g : Eng} {c : Nat → Nat} {tv nv : Value} {bs : List Nat} (h0 : bs.length = g.tables.length) (h1 : Blk (colr F c 0) w b #[tv, nv, lv, gv, .int .i64 g.clock] 91) (h2 : RowF (colr F c 0) w 287 1 tv bs.length (ptrsR bs)) (h3 : ∀ i (h : i < bs.length) (h2 : i < g.tables.length), RTbAt (colr F c (i + 1)) w bs[i] g.tables[i])
    (i : Nat) (hi : i < bs.length) (t' : Tb) (ht : RTbAt (Gro (colr F c (i + 1)) w) w' bs[i] t') (hs : Stp (fun k => colr F c (i + 1) k ∨ nv.ownBlock = some k) w w') (h4 : RowF (colr F c 0) w 3 1 nv bs.length (nexts g.tables)) (hnv : RowF (colr F c 0) w' 3 1 nv bs.length (nexts (g.tables.set i t'))) (hnb : nv.ownBlock ≠ some b) (hnt : ∀ k, nv.ownBlock = some k → tv.ownBlock ≠ some k) : REngAt (Gro F w) w' b lv gv { g with tables := g.tables.set i t' } ∧ Stp F w w' := by
  have hnF := h4.2
  have old : ∀ k, k < w.heap.size → cNew c w (i + 1) k = c k := fun k hk => by unfold cNew; rw [if_pos hk]
  refine ⟨⟨cNew c w (i + 1), tv, nv, bs, by rw [List.length_set]; exact h0, ?_, ?_, ?_, fun j h h' => ?_⟩, hs.mono (fun k _ h => h.elim (fun h => h.1) (fun h => (hnF k h).1))⟩
  · refine ⟨⟨Gro.any h1.1.1, (old b h1.lt).trans h1.1.2⟩, (hs.block b h1.lt ?_).trans h1.2⟩
    rintro (h | h)
    · have a := h.2; have b := h1.1.2; omega
    · exact hnb h
  · refine h2.keep (fun k _ hk _ hlt hF => ⟨⟨Gro.any hF.1, (old k hlt).trans hF.2⟩, hs.block k hlt ?_⟩)
    rintro (h | h)
    · have a := h.2; have b := hF.2; omega
    · exact hnt k h hk
  · exact ⟨hnv.1, fun k hk => ⟨Gro.any (hnF k hk).1, (old k (h4.1.lt k hk).2).trans (hnF k hk).2⟩⟩
  · have hjl : j < g.tables.length := by simpa using h'
    by_cases e : j = i
    · subst e
      have : (g.tables.set j t')[j]'(by rw [List.length_set]; exact hjl) = t' := List.getElem_set_self _
      show RTbAt _ _ _ ((g.tables.set j t')[j]'(by rw [List.length_set]; exact hjl))
      rw [this]
      refine ht.move (Mov.to (fun k _ hk => recol_same hk))
    · have : (g.tables.set i t')[j]'(by rw [List.length_set]; exact hjl) = g.tables[j] := List.getElem_set_ne (by omega) _
      show RTbAt _ _ _ ((g.tables.set i t')[j]'(by rw [List.length_set]; exact hjl))
      rw [this]
      refine (h3 j h hjl).move (fun k hk hF => ⟨⟨Gro.old hk hF.1, (old k hk).trans hF.2⟩, hs.block k hk ?_⟩)
      rintro (h | h)
      · have a := h.2; have b := hF.2; omega
      · have a := (hnF k h).2; have b := hF.2; omega
end Go.Proofs.YtbkeflgafjnefaaGreatDoor
namespace Go.Proofs.YtbkeflgafjnefaaGreatDoor
open Go.RowKit
open Trib
theorem insertT_len {t : Tb} {vals : List ByteArray} (h : vals.length ≠ t.cols.length) : insertT t vals = (0, 1, t) := by unfold insertT; rw [if_neg h]
theorem insertT_bad {t : Tb} {vals : List ByteArray} (h : allOf Trib.valOf vals = none) : insertT t vals = (0, 1, t) := by
  unfold insertT
  split
  · rw [h]
  · rfl
theorem insertT_type {t : Tb} {vals : List ByteArray} {l : List Vl} (h : vals.length = t.cols.length) (ha : allOf Trib.valOf vals = some l) (ht : typedE l t.cols = false) : insertT t vals = (0, 5, t) := by
  unfold insertT; rw [if_pos h, ha]; simp only; rw [ht, if_neg (by decide)]
theorem insertT_full {t : Tb} {vals : List ByteArray} {l : List Vl} (h : vals.length = t.cols.length) (ha : allOf Trib.valOf vals = some l) (ht : typedE l t.cols = true) (hf : 20 ≤ t.rows.length) : insertT t vals = (0, 7, t) := by
  unfold insertT; rw [if_pos h, ha]; simp only; rw [ht, if_pos rfl, if_pos hf]
theorem insertT_ok {t : Tb} {vals : List ByteArray} {l : List Vl} (h : vals.length = t.cols.length) (ha : allOf Trib.valOf vals = some l) (ht : typedE l t.cols = true) (hf : ¬ 20 ≤ t.rows.length) : insertT t vals = (t.last + 1, 0, { t with rows := t.rows ++ [(t.last + 1, l)], last := t.last + 1 }) := by
  unfold insertT; rw [if_pos h, ha]; simp only; rw [ht, if_pos rfl, if_neg hf]
theorem set_same (g : Eng) (i : Nat) (hi : i < g.tables.length) : ({ g with tables := g.tables.set i g.tables[i] } : Eng) = g := by
  rw [List.set_getElem_self]
/-- Strings that came in. -/
def StrIn (w : World) (v : Value) (vals : List ByteArray) : Prop :=
  ∃ a cap, v = .slice a vals.length cap ∧ (vals = [] ∨ ∃ q off, a = some ⟨q, off, none⟩ ∧ q < w.heap.size ∧ ∀ i (h : i < vals.length), w.cell? ⟨q, off + i, none⟩ = some (.string vals[i]))
theorem StrIn.move {w w' : World} {v : Value} {vals : List ByteArray} (h : StrIn w v vals) (hb : ∀ q, q < w.heap.size → w'.heap[q]? = w.heap[q]?) (hs : w.heap.size ≤ w'.heap.size) : StrIn w' v vals := by
  obtain ⟨a, cap, e, h | ⟨q, off, e1, e2, e3⟩⟩ := h
  · exact ⟨a, cap, e, .inl h⟩
  · exact ⟨a, cap, e, .inr ⟨q, off, e1, by omega, fun i hi => (World.cell?_of_block (hb q e2)).trans (e3 i hi)⟩⟩
def RInsP (F : Nat → Prop) (w : World) (b : Nat) (lv gv : Value) (r : Nat × Nat × Eng) (e : Ending) (w' : World) : Prop := e = .returned (.tuple #[.int .i64 (r.1 : Int), .int .i64 (r.2.1 : Int)]) ∧ REngAt (Gro F w) w' b lv gv r.2.2 ∧ Stp F w w'
/-- The values that are read up to a place. -/
def ReadTo (vals : List ByteArray) (j : Nat) (l : List Vl) : Prop := allOf Trib.valOf (vals.take j) = some l ∧ l.length = j
theorem ReadTo.next {vals : List ByteArray} {j : Nat} {l : List Vl} (h : ReadTo vals j l) (hj : j < vals.length) (hv : (valRes vals[j].data.toList).2 = true) : ReadTo vals (j + 1) (l ++ [(valRes vals[j].data.toList).1]) := by
  refine ⟨?_, by rw [List.length_append, h.2]; rfl⟩
  rw [List.take_succ_eq_append_getElem hj, allOf_snoc, h.1]
  unfold Trib.valOf
  rw [hv]; rfl
theorem ReadTo.bad {vals : List ByteArray} {j : Nat} (hj : j < vals.length) (hv : (valRes vals[j].data.toList).2 = false) : allOf Trib.valOf vals = none := by
  refine allOf_none _ _ vals[j] (List.getElem_mem hj) ?_
  unfold Trib.valOf
  rw [hv]; rfl
theorem ReadTo.all {vals : List ByteArray} {l : List Vl} (h : ReadTo vals vals.length l) : allOf Trib.valOf vals = some l := by
  have := h.1
  rwa [List.take_length] at this
theorem valRes_kind (s : List UInt8) : (valRes s).1.kind ≤ 2 := by
  unfold valRes
  split
  · exact Nat.zero_le _
  · split
    · split
      · exact Nat.le_refl _
      · exact Nat.zero_le _
    · split
      · exact (by decide : (1 : Nat) ≤ 2)
      · exact Nat.zero_le _
theorem infoRVal : (Tryz.prog.info? 310).map (fun i => (i.zero, i.size, i.bytes)) = some (some (.agg #[.int .u8 0, .int .i64 0, .string ⟨#[]⟩]), 3, 32) := by kernel_rfl
theorem infoRRow : (Tryz.prog.info? 295).map (fun i => (i.zero, i.size, i.bytes)) = some (some (.agg #[.int .i64 0, .slice none 0 0]), 2, 32) := by kernel_rfl
end Go.Proofs.YtbkeflgafjnefaaGreatDoor
namespace Go.Proofs.YtbkeflgafjnefaaGreatDoor
open Go.RowKit
open Trib
/-- What the document's Insert answers where a row is laid. -/
def RInsOk (w : World) (tb gn nb ncap i : Nat) (nm cv rv : Value) (rs : List (Nat × Value)) (ns : List Value) (nxt : Int) (l : List Vl) (e : Ending) (w' : World) : Prop :=
  e = .returned (.tuple #[.int .i64 nxt, .int .i64 0]) ∧ ∃ lv rv', w'.ownsRow w.heap.size 310 3 lv l.length (rvlCells l) ∧ w'.heap[tb]? = some (.cells #[nm, cv, rv'] 292 (0, 0)) ∧ w'.ownsRow 0 295 2 rv' (rs.length + 1) (rowCells rs ++ [.int .i64 nxt, lv]) ∧ (∀ q, rv'.ownBlock = some q → rv.ownBlock = some q ∨ w.heap.size ≤ q) ∧ w'.ownsRow 0 3 1 (.slice (some ⟨gn, 0, none⟩) nb ncap) nb (ns.set i (.int .i64 (nxt + 1))) ∧ Stp (fun q => q = tb ∨ q = gn ∨ rv.ownBlock = some q) w w'
def RInsNo (c : Nat) (w : World) (e : Ending) (w' : World) : Prop := e = .returned (.tuple #[.int .i64 0, .int .i64 (c : Int)]) ∧ Below w.heap.size w w'
def RInsR (r : Option (List Vl)) (cols : List (ByteArray × Nat)) (full : Bool) (w : World) (A : List Vl → Ending → World → Prop) : Ending → World → Prop := match r with
  | none => RInsNo 1 w
  | some l => if typedE l cols then (if full then RInsNo 7 w else A l) else RInsNo 5 w
theorem allOf_kind : ∀ {vals : List ByteArray} {l : List Vl}, allOf Trib.valOf vals = some l → ∀ v ∈ l, v.kind ≤ 2
  | [], l, h, v, hv => by obtain rfl := Option.some.inj h; cases hv
  | a :: r, l, h, v, hv => by
    rw [allOf] at h
    obtain ⟨y, hy, h⟩ := Option.bind_eq_some_iff.1 h
    obtain ⟨z, hz, h⟩ := Option.bind_eq_some_iff.1 h
    obtain rfl := Option.some.inj h
    rcases List.mem_cons.1 hv with rfl | hv
    · unfold Trib.valOf at hy
      split at hy
      · obtain rfl := Option.some.inj hy
        exact valRes_kind _
      · cases hy
    · exact allOf_kind hz v hv
theorem tyB_facts {a b : Nat} (ha : a ≤ 2) (hb : b = 1 ∨ b = 2) : (a = 0 → tyB a = 110) ∧ (a ≠ 0 → tyB a ≠ 110) ∧ (a ≠ b → a ≠ 0 → tyB a ≠ tyB b) := by
  have : a = 0 ∨ a = 1 ∨ a = 2 := by omega
  rcases this with rfl | rfl | rfl <;> rcases hb with rfl | rfl <;> simp [tyB]
theorem row_ne {w : World} {lo lo' : Nat} {e e' : TypeId} {s s' n n' : Nat} {v v' : Value} {xs xs' : List Value} (h : w.ownsRow lo e s v n xs) (h' : w.ownsRow lo' e' s' v' n' xs') (he : e ≠ e') : v.ownBlock = none ∨ v.ownBlock ≠ v'.ownBlock := by
  rcases h.2 with ⟨rfl, _⟩ | ⟨g, cap, cur, rfl, _, hgb, _⟩
  · exact .inl rfl
  · exact .inr (fun e1 => rowApart h' hgb he e1.symm)
theorem load3 {w : World} {k : Nat} {a b c : Value} {t : TypeId} (h : w.heap[k]? = some (.cells #[a, b, c] t (0, 0))) : w.cell? ⟨k, 0, none⟩ = some a ∧ w.cell? ⟨k, 1, none⟩ = some b ∧ w.cell? ⟨k, 2, none⟩ = some c := ⟨blkCell h (i := 0) rfl, blkCell h (i := 1) rfl, blkCell h (i := 2) rfl⟩
theorem three_new (w : World) (a b c : Value) (t : TypeId) : ∀ j u, ([a, b, c] : List Value)[j]? = some u → (w.alloc (.cells #[a, b, c] t)).cell? ((⟨w.heap.size, 0, none⟩ : Addr).add j) = some u :=
  World.news_of_block (cs := #[a, b, c]) (heap_alloc_new w _)
section
variable (b gt tcap nb i tb gc ccap gn ncap : Nat) (nm : Value) (cols : List (ByteArray × Nat)) (rv : Value) (rs : List (Nat × Value)) (ns : List Value) (nxt : Int) (e2 e3 e4 : Value) (name : ByteArray) (vals : List ByteArray) (q off vcap : Nat) (w : World)
    (hb : w.heap[b]? = some (.cells #[.slice (some ⟨gt, 0, none⟩) nb tcap, .slice (some ⟨gn, 0, none⟩) nb ncap, e2, e3, e4] 91 (0, 0)))
    (cti : w.cell? ⟨gt, i, none⟩ = some (.pointer (some ⟨tb, 0, none⟩)))
    (htb : w.heap[tb]? = some (.cells #[nm, .slice (some ⟨gc, 0, none⟩) vals.length ccap, rv] 292 (0, 0)))
    (hcr : w.ownsRow 0 285 2 (.slice (some ⟨gc, 0, none⟩) vals.length ccap) vals.length (rcolCells cols)) (hcl : Hid (vals.length = cols.length)) (hck : ∀ c ∈ cols, c.2 = 1 ∨ c.2 = 2)
    (hrr : w.ownsRow 0 295 2 rv rs.length (rowCells rs)) (hnr : w.ownsRow 0 3 1 (.slice (some ⟨gn, 0, none⟩) nb ncap) nb ns) (hni : ns[i]? = some (.int .i64 nxt))
    (hi : i < nb) (hn : rs.length ≤ 1000) (hv4 : vals.length ≤ 1000) (hx0 : 0 ≤ nxt) (hx1 : nxt ≤ 2000000000) (hcell : ∀ j (h : j < vals.length), w.cell? ⟨q, off + j, none⟩ = some (.string vals[j])) (hq : q < w.heap.size) (hs : ∀ t ∈ vals, t.size ≤ 2000000)
    (HF : Hid (Calls Tryz.prog 167 #[.pointer (some ⟨b, 0, none⟩), .string name] w fun e w' => e = .returned (.int .i64 (i : Int)) ∧ w = w'))
include hb cti htb hcr hcl hck hrr hnr hni hi hn hv4 hx0 hx1 hcell hq hs HF
set_option maxHeartbeats 8000000 in
set_option maxRecDepth 100000 in
theorem rins_core (full : Bool) (hfull : decide (20 ≤ rs.length) = full) :
    Calls Tryz.prog 168 #[.pointer (some ⟨b, 0, none⟩), .string name, .slice (some ⟨q, off, none⟩) vals.length vcap] w (RInsR (allOf Trib.valOf vals) cols full w (RInsOk w tb gn nb ncap i nm (.slice (some ⟨gc, 0, none⟩) vals.length ccap) rv rs ns nxt)) := by
  have cb0 := blkCell hb (i := 0) rfl
  have cb1 := blkCell hb (i := 1) rfl
  have ct1 := blkCell htb (i := 1) rfl
  have ct2 := blkCell htb (i := 2) rfl
  have hlb : b < w.heap.size := (Array.getElem?_eq_some_iff.1 hb).1
  have hlt : tb < w.heap.size := (Array.getElem?_eq_some_iff.1 htb).1
  have hi' : (i : Int) < (nb : Int) := by omega
  have hi0 : (0 : Int) ≤ (i : Int) := by omega
  obtain ⟨ra, rcap, rfl⟩ := rowShape hrr
  have HCELL := hide hcell
  have HB := hide hb
  have HTB := hide htb
  have HNI := hide hni
  have HCK := hide hck
  have HFULL := hide hfull
  obtain ⟨i0, hii, hz0, hz1, hz2⟩ := info_parts infoRVal
  clear hcell hb htb hni hck hfull
  go_enter Tryz.func168, Tryz.ntmps168
  go_wp2_with (go_at_call 167; refine HF.out.mono ?_; rintro e w2 ⟨rfl, rfl⟩)
  go_loopg [10, 11] (vals.length + 1) (fun p lvv ix wr => ∃ (j : Nat) (l : List Vl), j ≤ vals.length ∧ ix = .int .i64 (j : Int) ∧ Hid (ReadTo vals j l) ∧ wr.ownsRow w.heap.size 310 3 lvv l.length (rvlCells l) ∧ Below w.heap.size w wr ∧ vals.length - j < p)
  case atStart => exact ⟨0, [], Nat.zero_le _, rfl, hide ⟨rfl, rfl⟩, World.ownsRow_nil _ _ _ _, Below.refl _ _, by omega⟩
  case round =>
    obtain ⟨j, l, hj, rfl, hread, hown, hbel, hp⟩ := hrel
    have HP := hide hp
    have HLL : Hid (l.length = j) := hide hread.out.2
    clear hp
    have zr := hbel.size
    obtain ⟨la, lcap, rfl⟩ := rowShape hown
    by_cases hlt' : j < vals.length
    · have hltI : (j : Int) < (vals.length : Int) := by omega
      have cv := cell_below hbel (HCELL.out j hlt') hq
      have HRD := hide (fun W => rread_any vals[j] W (hs _ (List.getElem_mem hlt')))
      have hwr : IntKind.i64.wrap ((j : Int) + 1) = (j : Int) + 1 := by rw [IntKind.wrap_i64]; omega
      have HNX : Hid ((valRes vals[j].data.toList).2 = true → ReadTo vals (j + 1) (l ++ [(valRes vals[j].data.toList).1])) := hide (fun h => hread.out.next hlt' h)
      have HBD : Hid ((valRes vals[j].data.toList).2 = false → allOf Trib.valOf vals = none) := hide (fun h => ReadTo.bad hlt' h)
      clear hread
      unfold ReadV at HRD
      generalize valRes vals[j].data.toList = R at *
      obtain ⟨vl, okk⟩ := R
      cases okk
      · have HBAD := hide (HBD.out rfl)
        clear HNX HBD
        go_wp2_with (go_at_call 241; refine (HRD.out wr).mono ?_; rintro e w2 ⟨⟨x, y, z, rfl, hxyz⟩, hb2⟩)
        go_ret2
        rw [HBAD.out]
        exact ⟨rfl, (hbel.trans (hb2.mono zr)).alloc (by have := hb2.size; omega) _⟩
      · have HNXT := hide (HNX.out rfl)
        clear HNX HBD
        go_upto_region 14 with (go_at_call 241; refine (HRD.out wr).mono ?_; rintro e w2 ⟨⟨x, y, z, rfl, hxyz⟩, hb2⟩)
        obtain ⟨rfl, rfl, rfl⟩ := hxyz trivial
        have z2 := hb2.size
        have hloc := heap_alloc_new w2 (.cells #[.int .u8 (tyB vl.kind), .int .i64 vl.num, .string (bytesL vl.word)] 310)
        have hbW : Below w.heap.size w (w2.alloc (.cells #[.int .u8 (tyB vl.kind), .int .i64 vl.num, .string (bytesL vl.word)] 310)) := (hbel.trans (hb2.mono zr)).alloc (by omega) _
        have hownW := (rowBel hown hb2).alloc (.cells #[.int .u8 (tyB vl.kind), .int .i64 vl.num, .string (bytesL vl.word)] 310)
        generalize w2.alloc (.cells #[.int .u8 (tyB vl.kind), .int .i64 vl.num, .string (bytesL vl.word)] 310) = W at *
        generalize w2.heap.size = G at *
        obtain ⟨d0, d1, d2⟩ := load3 hloc
        clear hown hloc hb2 z2
        have hj1000 : l.length ≤ 1000 := by have := HLL.out; omega
        have hGW := hbW.size
        have HRC := hide (rvlCells_snoc l vl)
        generalize tyB vl.kind = ka at *
        go_wp2_with (at_builtin; refine wpList_append_own _ rfl _ _ 212 rfl w.heap.size 310 i0 (.agg #[.int .u8 0, .int .i64 0, .string ⟨#[]⟩]) 3 32 Tryz.underlying212 hii hz0 hz1 hz2 rfl (by decide) _ _ _ rfl (hownW.alloc _) ⟨W.heap.size, 0, none⟩ 1 1 [.int .u8 ka, .int .i64 vl.num, .string (bytesL vl.word)] rfl rfl (three_new _ _ _ _ _) (by simp [Value.oneCell']) (by unfold maxLen; omega) (by omega) (by simp; omega) ?_; intro v' w3 hown3 hgrow3 _)
        have hp := HP.out
        have hlt0 := hownW.lt
        rw [← HRC.out] at hown3
        go_roundg (vals.length - j)
        case measure => omega
        case rel => exact ⟨j + 1, l ++ [vl], by omega, by go_num, HNXT, by rw [List.length_append]; exact hown3, (hbW.alloc hGW _).grown hgrow3 (by simp; omega) (fun k hk => (hlt0 k hk).1), by omega⟩
    · obtain ⟨wE, rfl⟩ : ∃ x, x = wr := ⟨wr, rfl⟩
      have hjI : (vals.length : Int) ≤ (j : Int) := by omega
      have hje : j = vals.length := by omega
      have HALL : Hid (allOf Trib.valOf vals = some l) := hide (ReadTo.all (hje ▸ hread.out))
      have hl1000 : l.length ≤ 1000 := by have := HLL.out; omega
      have HLC : Hid (l.length = cols.length) := hide (by have := HLL.out; have := hcl.out; omega)
      have HLV : Hid (l.length = vals.length) := hide (by have := HLL.out; omega)
      have HKD := hide (allOf_kind HALL.out)
      clear hread hje HP
      go_wp2_with fail
      go_loopg [14] (l.length + 1) (fun p ix w1 => ∃ (m : Nat), m ≤ l.length ∧ ix = .int .i64 (m : Int) ∧ Hid (TypedTo l cols m) ∧ Below wE.heap.size wE w1 ∧ l.length - m < p)
      case atStart => exact ⟨0, Nat.zero_le _, rfl, hide (fun a ha _ _ => absurd ha (Nat.not_lt_zero _)), Below.refl _ _, by omega⟩
      case round =>
        obtain ⟨m, hm, rfl, hty, hb1, hp⟩ := hrel
        have HP := hide hp
        clear hp
        have hbw1 := hbel.trans (hb1.mono zr)
        have z1 := hb1.size
        have ct1' := cell_below hbw1 ct1 hlt
        have ct2' := cell_below hbw1 ct2 hlt
        by_cases hmlt : m < l.length
        · have hmI : (m : Int) < (l.length : Int) := by omega
          have hmc : m < cols.length := by have := HLC.out; omega
          have hmv : (m : Int) < (vals.length : Int) := by have := HLV.out; omega
          have hwm : IntKind.i64.wrap ((m : Int) + 1) = (m : Int) + 1 := by rw [IntKind.wrap_i64]; omega
          rcases hown.2 with ⟨e', h0⟩ | ⟨gl, cap', cur, e', hgl, hgb, -⟩
          · omega
          obtain ⟨rfl, rfl⟩ : la = some ⟨gl, 0, none⟩ ∧ lcap = cap' := by
            injection e' with e1 e2 e3
            exact ⟨e1, e3⟩
          have hglt : gl < wE.heap.size := (Array.getElem?_eq_some_iff.1 hgb).1
          have k1 := cell_below hb1 (rowCell (rowLow (Nat.zero_le _) hown) (rvlCells_at l m hmlt)) hglt
          have hgcl : gc < w.heap.size := (hcr.lt gc rfl).2
          have k2 := cell_below hbw1 (rowCell hcr (rcolCells_at cols m hmc).2) hgcl
          have hfac := tyB_facts (HKD.out _ (List.getElem_mem hmlt)) (HCK.out _ (List.getElem_mem hmc))
          have HNX : Hid ((l[m].kind = 0 ∨ l[m].kind = cols[m].2) → TypedTo l cols (m + 1)) := hide (fun h a ha h1 h2 => by
            by_cases e : a = m
            · subst e; exact h
            · exact hty.out a (by omega) h1 h2)
          have HFL := hide (fun (h1 : l[m].kind ≠ 0) (h2 : l[m].kind ≠ cols[m].2) => typed_false l cols m hmlt hmc h1 h2)
          clear hty e' hgb ct2'
          generalize l[m].kind = kv at *
          generalize cols[m].2 = kc at *
          by_cases h0 : kv = 0
          · have e0 := hfac.1 h0
            have HT := hide (HNX.out (Or.inl h0))
            rw [e0] at k1
            clear hfac HNX HFL e0
            go_upto_region 18 with fail
            go_quiet (fail)
            go_wp2_with fail
            have hp := HP.out
            go_roundg (l.length - m)
            case measure => omega
            case rel => exact ⟨m + 1, by omega, by go_num, HT, hb1.trans ⟨rfl, rfl, rfl, Nat.le_refl _, fun _ _ => rfl⟩, by omega⟩
          · have n0 := hfac.2.1 h0
            have n0b : (tyB kv != 110) = true := bne_iff_ne.2 n0
            by_cases h1 : kv = kc
            · have HT := hide (HNX.out (Or.inr h1))
              rw [← h1] at k2
              clear hfac HNX HFL
              generalize tyB kv = ka at *
              go_upto_region 18 with fail
              go_quiet (fail)
              go_wp2_with fail
              have hp := HP.out
              go_roundg (l.length - m)
              case measure => omega
              case rel => exact ⟨m + 1, by omega, by go_num, HT, hb1.trans ⟨rfl, rfl, rfl, Nat.le_refl _, fun _ _ => rfl⟩, by omega⟩
            · have n1 := hfac.2.2 h1 h0
              have HT := hide (HFL.out h0 h1)
              generalize tyB kv = ka at *
              generalize tyB kc = kb at *
              have n1b : (ka != kb) = true := bne_iff_ne.2 n1
              clear hfac HNX HFL n0 n1
              go_upto_region 18 with fail
              go_quiet (fail)
              go_wp2_with fail
              go_ret2
              rw [HALL.out]
              show (if typedE l cols then _ else RInsNo 5 w) _ _
              rw [HT.out, if_neg (by decide)]
              exact ⟨rfl, hbw1.trans ⟨rfl, rfl, rfl, Nat.le_refl _, fun _ _ => rfl⟩⟩
        · obtain ⟨wF, rfl⟩ : ∃ x, x = wr := ⟨wr, rfl⟩
          have hmI : (l.length : Int) ≤ (m : Int) := by omega
          have hme : m = l.length := by omega
          have HTY : Hid (typedE l cols = true) := hide (typed_true l cols (hme ▸ hty.out))
          clear hty hme HP
          cases full
          · have h20 : (rs.length : Int) < 20 := by have := of_decide_eq_false HFULL.out; omega
            obtain ⟨i1, hi1, hy0, hy1, hy2⟩ := info_parts infoRRow
            have hglt : gn < w.heap.size := (hnr.lt gn rfl).2
            have hrowN := rowBel hnr hbw1
            have cb1' : wF.cell? ⟨b, 1, none⟩ = some (.slice (some ⟨gn, 0, none⟩) nb ncap) := cell_below hbw1 cb1 hlb
            have cni : wF.cell? ⟨gn, i, none⟩ = some (.int .i64 nxt) := rowCell hrowN HNI.out
            have hwn : IntKind.i64.wrap (nxt + 1) = nxt + 1 := by rw [IntKind.wrap_i64]; omega
            have hgt : gn ≠ tb := fun e => rowApart hnr HTB.out (by decide) (by rw [e]; rfl)
            have fni : wF.frozen? ⟨gn, i, none⟩ = false := by
              rcases hrowN.2 with ⟨e', _⟩ | ⟨g', cap', cur, e', _, hgb, _⟩
              · cases e'
              · obtain rfl : gn = g' := by simpa using (Value.slice.inj e').1
                exact blkFree hgb
            have hgnb : ∃ cur, wF.heap[gn]? = some (.cells cur 3 (0, 0)) := by
              rcases hrowN.2 with ⟨e', _⟩ | ⟨g', cap', cur, e', _, hgb, _⟩
              · cases e'
              · obtain rfl : gn = g' := by simpa using (Value.slice.inj e').1
                exact ⟨cur, hgb⟩
            have HX : Hid (Stp (fun q => q = tb ∨ q = gn ∨ (Value.slice ra rs.length rcap).ownBlock = some q) w (wF.setCell ⟨gn, i, none⟩ (.int .i64 (nxt + 1)))) := hide ((Stp.of hbw1).andThen (Stp.set gn i _ (.inr (.inl rfl))))
            have HXT : Hid ((wF.setCell ⟨gn, i, none⟩ (.int .i64 (nxt + 1))).heap[tb]? = some (.cells #[nm, .slice (some ⟨gc, 0, none⟩) vals.length ccap, .slice ra rs.length rcap] 292 (0, 0))) := hide ((Below.heap_setCell _ _ _ tb (fun e => hgt e.symm)).trans ((hbw1.block tb hlt).trans HTB.out))
            have HXN : Hid ((wF.setCell ⟨gn, i, none⟩ (.int .i64 (nxt + 1))).ownsRow 0 3 1 (.slice (some ⟨gn, 0, none⟩) nb ncap) nb (ns.set i (.int .i64 (nxt + 1)))) := hide (hrowN.stored i _).1
            have HXR : Hid ((wF.setCell ⟨gn, i, none⟩ (.int .i64 (nxt + 1))).ownsRow 0 295 2 (.slice ra rs.length rcap) rs.length (rowCells rs)) := hide (ownsRow_setCell_other (rowBel hrr hbw1) (fun e => by obtain ⟨cur, hgb⟩ := hgnb; exact rowApart (rowBel hrr hbw1) hgb (by decide) e) _)
            have HXL : Hid ((wF.setCell ⟨gn, i, none⟩ (.int .i64 (nxt + 1))).ownsRow w.heap.size 310 3 (.slice la l.length lcap) l.length (rvlCells l)) := hide (ownsRow_setCell_other (rowBel hown hb1) (fun e => by obtain ⟨cur, hgb⟩ := hgnb; exact rowApart (rowBel hown hb1) hgb (by decide) e) _)
            clear hgnb
            have HXZ : Hid ((wF.setCell ⟨gn, i, none⟩ (.int .i64 (nxt + 1))).heap.size = wF.heap.size) := hide (by simp [World.setCell])
            go_upto_region 24 with fail
            generalize wF.setCell ⟨gn, i, none⟩ (.int .i64 (nxt + 1)) = W at *
            have d2 : W.cell? ⟨tb, 2, none⟩ = some (.slice ra rs.length rcap) := blkCell HXT.out (i := 2) rfl
            have hrr1 := HXR.out
            have hrl1 := HXL.out
            have hltW : tb < W.heap.size := (Array.getElem?_eq_some_iff.1 HXT.out).1
            have hapW := rowApart hrr1 HXT.out (by decide)
            have zW : w.heap.size ≤ W.heap.size := HX.out.size
            clear cb1' cni fni ct1' ct2' cb0 cb1 ct1 ct2 hwn
            go_wp2_with (at_builtin; refine wpList_append_lies _ rfl _ _ 290 rfl 0 295 i1 (.agg #[.int .i64 0, .slice none 0 0]) 2 32 Tryz.underlying290 hi1 hy0 hy1 hy2 rfl (by decide) _ _ _ rfl (hrr1.alloc _) ⟨W.heap.size, 0, none⟩ 1 1 [.int .i64 nxt, .slice la l.length lcap] rfl rfl (tok_new _ _ _ _) (by simp [Value.oneCell']) (by decide) (by unfold maxLen; omega) (by omega) (Nat.zero_le _) (W.heap.size + 1) (by simp) ?_; intro g5 cap5 w5 hown5 hgrow5 hat5 hlt5; have hT5 := (hgrow5.block tb (by simp; omega) (fun e => hapW e.symm)).trans ((Below.heap_alloc W _ tb hltW).trans HXT.out); have x2 := blkCell hT5 (i := 2) rfl; have xf2 := blkFree (i := 2) hT5)
            go_ret2
            rw [HALL.out]
            show (if typedE l cols then (if false then RInsNo 7 w else RInsOk w tb gn nb ncap i nm (.slice (some ⟨gc, 0, none⟩) vals.length ccap) (.slice ra rs.length rcap) rs ns nxt l) else RInsNo 5 w) _ _
            rw [HTY.out, if_pos rfl, if_neg (by decide)]
            have hapL := rowApart hrl1 HXT.out (by decide)
            have hapN := rowApart HXN.out HXT.out (by decide)
            have hL5 := ((hrl1.alloc (.cells #[.int .i64 nxt, .slice la l.length lcap] 295)).kept hgrow5 (row_ne hrl1 hrr1 (by decide)))
            have hN5 := ((HXN.out.alloc (.cells #[.int .i64 nxt, .slice la l.length lcap] 295)).kept hgrow5 (row_ne HXN.out hrr1 (by decide)))
            have hap5 := rowApart hown5 hT5 (by decide)
            refine ⟨rfl, .slice la l.length lcap, .slice (some ⟨g5, 0, none⟩) (rs.length + 1) cap5, ownsRow_setCell_other hL5 hapL _, ?_, ownsRow_setCell_other hown5 hap5 _, ?_, ownsRow_setCell_other hN5 hapN _, ?_⟩
            · exact (Blk.set (F := fun _ => True) ⟨trivial, hT5⟩ 2 _).2
            · intro k hk
              obtain rfl : g5 = k := by simpa [Value.ownBlock] using hk
              rcases hat5 with h | h
              · exact .inl h
              · exact .inr (by omega)
            · exact ((HX.out.andThen (Stp.of ((Below.refl _ _).alloc (Nat.le_refl _) _))).andThen (Stp.grown hgrow5 (fun k e => .inr (.inr e)))).andThen (Stp.set tb 2 _ (.inl rfl))
          · have h20 : (20 : Int) ≤ (rs.length : Int) := by have := of_decide_eq_true HFULL.out; omega
            go_wp2_with fail
            go_ret2
            rw [HALL.out]
            show (if typedE l cols then (if true then RInsNo 7 w else _) else RInsNo 5 w) _ _
            rw [HTY.out, if_pos rfl, if_pos rfl]
            exact ⟨rfl, hbw1⟩
end
end Go.Proofs.YtbkeflgafjnefaaGreatDoor
namespace Go.Proofs.YtbkeflgafjnefaaGreatDoor
open Go.RowKit
open Trib
theorem nexts_set (l : List Tb) (i : Nat) (t : Tb) : nexts (l.set i t) = (nexts l).set i (.int .i64 ((t.last + 1 : Nat) : Int)) := by
  unfold nexts; rw [List.map_set]
theorem nexts_at {l : List Tb} {i : Nat} (h : i < l.length) : (nexts l)[i]? = some (.int .i64 ((l[i].last + 1 : Nat) : Int)) := by
  unfold nexts; rw [List.getElem?_map, List.getElem?_eq_getElem h]; rfl
set_option maxHeartbeats 4000000 in
theorem rinsert_none {F : Nat → Prop} {w : World} {b : Nat} {lv gv : Value} {g : Eng} {N : Nat} (h : REngAt F w b lv gv g) (ok : EngOk N g) (name : ByteArray) (v : Value) (vals : List ByteArray) (hf : findT g.tables name = none) :
    Calls Tryz.prog 168 #[.pointer (some ⟨b, 0, none⟩), .string name, v] w (RInsP F w b lv gv (insertE g name vals)) := by
  have HE := hide (h.move (Mov.gro (Below.refl w.heap.size w)))
  obtain ⟨c, tv, nv, bs, h0, h1, h2, h4, h3⟩ := h
  have HF := hide (REngAt.find h0 h1 h2 h3 ok.six name)
  rw [hf, show idxB none = -1 from rfl] at HF
  rw [insertE_none hf]
  clear h0 h1 h2 h3 h4 hf ok
  go_enter Tryz.func168, Tryz.ntmps168
  go_wp2_with (go_at_call 167; refine HF.out.mono ?_; rintro e w2 ⟨rfl, rfl⟩)
  go_ret2
  exact ⟨rfl, HE.out, Stp.refl _ _⟩
set_option maxHeartbeats 4000000 in
theorem rinsert_len {F : Nat → Prop} {w : World} {b : Nat} {lv gv : Value} {g : Eng} {N : Nat} (h : REngAt F w b lv gv g) (ok : EngOk N g) (name : ByteArray) (va : Option Addr) (vcap : Nat) (vals : List ByteArray) (i : Nat) (hf : findT g.tables name = some i) (hi : i < g.tables.length) (hlen : vals.length ≠ g.tables[i].cols.length) :
    Calls Tryz.prog 168 #[.pointer (some ⟨b, 0, none⟩), .string name, .slice va vals.length vcap] w (RInsP F w b lv gv (insertE g name vals)) := by
  have HE := hide (h.move (Mov.gro (Below.refl w.heap.size w)))
  rw [insertE_at hf hi, insertT_len hlen]
  simp only
  rw [set_same g i hi]
  obtain ⟨c, tv, nv, bs, h0, h1, h2, h4, h3⟩ := h
  have HF := hide (REngAt.find h0 h1 h2 h3 ok.six name)
  rw [hf, show idxB (some i) = (i : Int) from rfl] at HF
  have hib : i < bs.length := by omega
  obtain ⟨cv, rv, rs, t1, t2, t3, t4⟩ := h3 i hib hi
  obtain ⟨gt, tcap, rfl, htc, hFt, hgt⟩ := h2.got (by omega)
  obtain ⟨ca, ccap, rfl⟩ := t2.shape
  have cb0 : w.cell? ⟨b, 0, none⟩ = some (.slice (some ⟨gt, 0, none⟩) bs.length tcap) := h1.cell (i := 0) rfl
  have cti : w.cell? ⟨gt, i, none⟩ = some (.pointer (some ⟨bs[i], 0, none⟩)) := h2.cells (by unfold ptrsR; rw [List.getElem?_map, List.getElem?_eq_getElem hib]; rfl)
  have ct1 : w.cell? ⟨bs[i], 1, none⟩ = some (.slice ca g.tables[i].cols.length ccap) := t1.cell (i := 1) rfl
  have hne : ((vals.length : Int) != (g.tables[i].cols.length : Int)) = true := bne_iff_ne.2 (by omega)
  have hi' : (i : Int) < (bs.length : Int) := by omega
  have hi0 : (0 : Int) ≤ (i : Int) := by omega
  clear h0 h1 h2 h3 h4 hf t1 t2 t3 t4 ok
  generalize g.tables[i].cols.length = nc at *
  generalize bs[i] = tb at *
  generalize bs.length = nb at *
  go_enter Tryz.func168, Tryz.ntmps168
  go_wp2_with (go_at_call 167; refine HF.out.mono ?_; rintro e w2 ⟨rfl, rfl⟩)
  go_ret2
  exact ⟨rfl, HE.out, Stp.refl _ _⟩
theorem rinsert_any {F : Nat → Prop} {w : World} {b : Nat} {lv gv : Value} {g : Eng} {N : Nat} (h : REngAt F w b lv gv g) (ok : EngOk N g) (hN : N ≤ 1000000000) (name : ByteArray) (v : Value) (vals : List ByteArray) (hv : StrIn w v vals) (hs : ∀ t ∈ vals, t.size ≤ 2000000) :
    Calls Tryz.prog 168 #[.pointer (some ⟨b, 0, none⟩), .string name, v] w (RInsP F w b lv gv (insertE g name vals)) := by
  cases hf : findT g.tables name with
  | none => exact rinsert_none h ok name v vals hf
  | some i =>
    have hi := findT_lt hf
    obtain ⟨va, vcap, rfl, hvv⟩ := hv
    by_cases hlen : vals.length = g.tables[i].cols.length
    · have hE := h
      obtain ⟨c, tv, nv, bs, h0, h1, h2, h4, h3⟩ := h
      have hib : i < bs.length := by omega
      have hok := ok.tabs _ (List.getElem_mem hi)
      have HF := REngAt.find h0 h1 h2 h3 ok.six name
      rw [hf] at HF
      obtain ⟨cv, rv, rs, t1, t2, t3, t4⟩ := h3 i hib hi
      have hrl := t4.len
      obtain ⟨gt, tcap, rfl, htc, hFt, hgt⟩ := h2.got (by omega)
      obtain ⟨gc, ccap, rfl, hcc, hFc, hgc⟩ := t2.got hok.c1
      obtain ⟨gn, ncap, rfl, hnc, hFn, hgn⟩ := h4.got (by omega)
      obtain ⟨q, off, rfl, hq, hcell⟩ : ∃ q off, va = some ⟨q, off, none⟩ ∧ q < w.heap.size ∧ ∀ i (h : i < vals.length), w.cell? ⟨q, off + i, none⟩ = some (.string vals[i]) := by
        rcases hvv with rfl | hvv
        · have := hok.c1; simp at hlen; omega
        · exact hvv
      have hr20 := hok.r20
      have hc4 := hok.c4
      have hla := hok.last
      have core := rins_core b gt tcap bs.length i bs[i] gc ccap gn ncap (.string g.tables[i].name) g.tables[i].cols rv rs (nexts g.tables) ((g.tables[i].last + 1 : Nat) : Int) lv gv (.int .i64 g.clock) name vals q off vcap w h1.2 (h2.cells (by unfold ptrsR; rw [List.getElem?_map, List.getElem?_eq_getElem hib]; rfl)) (by rw [hlen]; exact t1.2) (by rw [hlen]; exact t2.1) (hide hlen) hok.ck (by rw [hrl]; exact t3.1) h4.1 (nexts_at hi) hib (by omega) (by omega) (by omega) (by omega) hcell hq hs (hide HF) _ rfl
      refine core.mono ?_
      intro e w' hr
      rw [insertE_at hf hi]
      have back : ∀ (k : Nat), RInsNo k w e w' → insertT g.tables[i] vals = (0, k, g.tables[i]) → RInsP F w b lv gv ((insertT g.tables[i] vals).1, (insertT g.tables[i] vals).2.1, { g with tables := g.tables.set i (insertT g.tables[i] vals).2.2 }) e w' := fun k hno he => by
        rw [he]
        simp only
        rw [set_same g i hi]
        exact ⟨hno.1, hE.move (Mov.gro hno.2), Stp.of hno.2⟩
      cases ha : allOf Trib.valOf vals with
      | none =>
        rw [ha] at hr
        exact back 1 hr (insertT_bad ha)
      | some l =>
        rw [ha] at hr
        simp only [RInsR] at hr
        cases hty : typedE l g.tables[i].cols with
        | false =>
          rw [hty, if_neg (by decide)] at hr
          exact back 5 hr (insertT_type hlen ha hty)
        | true =>
          rw [hty, if_pos rfl] at hr
          by_cases hfull : 20 ≤ rs.length
          · rw [if_pos (by rw [decide_eq_true hfull])] at hr
            exact back 7 hr (insertT_full hlen ha hty (by omega))
          · rw [if_neg (by rw [decide_eq_false hfull]; decide)] at hr
            rw [insertT_ok hlen ha hty (by omega)]
            obtain ⟨rfl, lw, rv', hlw, htb, hrw, hown, hnx, hstp⟩ := hr
            have hgnb : ∃ cur, w.heap[gn]? = some (.cells cur 3 (0, 0)) := by
              rcases h4.1.2 with ⟨e', _⟩ | ⟨g', cap', cur, e', _, hgb, _⟩
              · cases e'
              · obtain rfl : gn = g' := by simpa using (Value.slice.inj e').1
                exact ⟨cur, hgb⟩
            obtain ⟨ncur, hgnb⟩ := hgnb
            have mv : ∀ {e : TypeId} {size n : Nat} {x : Value} {xs : List Value}, RowF (colr F c (i + 1)) w e size x n xs → 292 ≠ e → 3 ≠ e → e ≠ 295 → RowF (Gro (colr F c (i + 1)) w) w' e size x n xs := fun {e size n x xs} hx e1 e2 e3 =>
              hx.keep (fun k _ hk hgb hlt hF => ⟨Gro.old hlt hF, hstp.block k hlt (by
                rintro (rfl | rfl | h)
                · exact hx.apart t1.2 e1 hk
                · exact hx.apart hgnb e2 hk
                · exact t3.apart hgb e3 h)⟩)
            have ht : RTbAt (Gro (colr F c (i + 1)) w) w' bs[i] { g.tables[i] with rows := g.tables[i].rows ++ [(g.tables[i].last + 1, l)], last := g.tables[i].last + 1 } := by
              refine ⟨_, rv', rs ++ [(g.tables[i].last + 1, lw)], ⟨Gro.any t1.1, htb⟩, by rw [hlen]; exact mv t2 (by decide) (by decide) (by decide), ⟨?_, ?_⟩, ?_⟩
              · rw [rowCells_snoc]
                show w'.ownsRow 0 _ 2 rv' (g.tables[i].rows ++ [_]).length _
                rw [List.length_append, ← hrl]
                exact hrw
              · intro k hk
                rcases hown k hk with h | h
                · exact Gro.any (t3.2 k h)
                · exact Gro.new h
              · exact RRowsAre.snoc rfl (RowF.new hlw (fun k hk => Gro.new hk)) (t4.keep (fun hx => mv hx (by decide) (by decide) (by decide)))
            have turn := REngAt.turn h0 h1 h2 h3 i hib _ ht (hstp.mono (fun k _ hk => by
              rcases hk with rfl | rfl | hk
              · exact .inl t1.1
              · exact .inr rfl
              · exact .inl (t3.2 k hk))) h4 ⟨by rw [nexts_set]; exact hnx, h4.2⟩ (h4.apart h1.2 (by decide)) (fun k hk => by
                obtain rfl : gn = k := by simpa [Value.ownBlock] using hk
                exact h2.apart hgnb (by decide))
            exact ⟨rfl, turn⟩
    · exact rinsert_len h ok name va vcap vals i hf hi hlen
end Go.Proofs.YtbkeflgafjnefaaGreatDoor
