/- Towards the law of tables: H2, S1. -/
import Derived.Test.YtbkeflgafjnefaaGreatDoorM24
import Derived.Shelf.Abstract
namespace Go.Proofs.YtbkeflgafjnefaaGreatDoor
open Go.RowKit
/-- Rows as they lie: the number, the values. -/
def rowCells (rs : List (Nat × Value)) : List Value := rs.flatMap fun r => [.int .i64 (r.1 : Int), r.2]
theorem rowCells_snoc (l : List (Nat × Value)) (c : Nat × Value) : rowCells (l ++ [c]) = rowCells l ++ [.int .i64 (c.1 : Int), c.2] := by simp [rowCells]
theorem rowCells_len (l : List (Nat × Value)) : (rowCells l).length = l.length * 2 := by
  induction l with
  | nil => rfl
  | cons a r ih => simp [rowCells] at ih ⊢; omega
theorem rowCells_at (l : List (Nat × Value)) (p : Nat) (h : p < l.length) : (rowCells l)[p * 2]? = some (.int .i64 (l[p].1 : Int)) ∧ (rowCells l)[p * 2 + 1]? = some l[p].2 := by
  induction l generalizing p with
  | nil => exact absurd h (Nat.not_lt_zero _)
  | cons a r ih =>
    have e : rowCells (a :: r) = [.int .i64 (a.1 : Int), a.2] ++ rowCells r := by simp [rowCells]
    rw [e]
    cases p with
    | zero => exact ⟨rfl, rfl⟩
    | succ p =>
      have := ih p (by simpa using h)
      rw [List.getElem?_append_right (by simp; omega), List.getElem?_append_right (by simp; omega)]
      have e1 : (p + 1) * 2 - [Value.int IntKind.i64 (a.1 : Int), a.2].length = p * 2 := by simp; omega
      have e2 : (p + 1) * 2 + 1 - [Value.int IntKind.i64 (a.1 : Int), a.2].length = p * 2 + 1 := by simp; omega
      rw [e1, e2]; simpa using this
theorem rowCells_take (l : List (Nat × Value)) (i : Nat) : (rowCells l).take (i * 2) = rowCells (l.take i) := by
  induction l generalizing i with
  | nil => simp [rowCells]
  | cons a r ih =>
    cases i with
    | zero => simp [rowCells]
    | succ i =>
      have e : rowCells (a :: r) = .int .i64 (a.1 : Int) :: a.2 :: rowCells r := by simp [rowCells]
      have e2 : rowCells ((a :: r).take (i + 1)) = .int .i64 (a.1 : Int) :: a.2 :: rowCells (r.take i) := by simp [rowCells]
      rw [e, e2, show (i + 1) * 2 = i * 2 + 1 + 1 from by omega, List.take_succ_cons, List.take_succ_cons, ih]
theorem rowCells_drop (l : List (Nat × Value)) (i : Nat) : (rowCells l).drop (i * 2) = rowCells (l.drop i) := by
  induction l generalizing i with
  | nil => simp [rowCells]
  | cons a r ih =>
    cases i with
    | zero => simp [rowCells]
    | succ i =>
      have e : rowCells (a :: r) = .int .i64 (a.1 : Int) :: a.2 :: rowCells r := by simp [rowCells]
      rw [e, show (i + 1) * 2 = i * 2 + 1 + 1 from by omega, List.drop_succ_cons, List.drop_succ_cons, ih, List.drop_succ_cons]
theorem rowCells_append (a b : List (Nat × Value)) : rowCells (a ++ b) = rowCells a ++ rowCells b := by simp [rowCells]
theorem rowCells_erase (l : List (Nat × Value)) (i : Nat) : (rowCells l).take (i * 2) ++ (rowCells l).drop (i * 2 + 2) = rowCells (l.eraseIdx i) := by
  rw [show i * 2 + 2 = (i + 1) * 2 from by omega, rowCells_take, rowCells_drop, ← rowCells_append, List.eraseIdx_eq_take_drop_succ]
def idxN : Option Nat → Int
  | none => -1
  | some i => i
/-- None of the first j rows has this number. -/
def NoRow (rs : List (Nat × Value)) (m : Int) (j : Nat) : Prop := ∀ i (_ : i < j) (h : i < rs.length), (rs[i].1 : Int) ≠ m
theorem noRow_none {rs : List (Nat × Value)} {m : Int} (h : NoRow rs m rs.length) : rs.findIdx? (fun r => (r.1 : Int) == m) = none := by
  rw [List.findIdx?_eq_none_iff]
  intro r hr
  obtain ⟨i, hi, rfl⟩ := List.mem_iff_getElem.1 hr
  rw [beq_eq_false_iff_ne]
  exact h i hi hi
theorem noRow_some {rs : List (Nat × Value)} {m : Int} {j : Nat} (h : NoRow rs m j) (hj : j < rs.length) (e : (rs[j].1 : Int) = m) : rs.findIdx? (fun r => (r.1 : Int) == m) = some j := by
  rw [List.findIdx?_eq_some_iff_getElem]
  refine ⟨hj, beq_iff_eq.2 e, fun i hi hb => ?_⟩
  exact h i hi (by omega) (beq_iff_eq.1 hb)
theorem cell_below {W w : World} {lo : Nat} (hb : Below lo w W) {b i : Nat} {v : Value} (h : w.cell? ⟨b, i, none⟩ = some v) (hl : b < lo) : W.cell? ⟨b, i, none⟩ = some v := (hb.cell (p := ⟨b, i, none⟩) hl).trans h
set_option maxHeartbeats 1000000 in
theorem isRow_any (a m : Int) (v : Value) (B : Nat) (w : World) (hB : w.cell? ⟨B, 0, none⟩ = some (.int .i64 m)) (hl : B < w.heap.size) :
    Calls Tryz.prog 126 #[.agg #[.int .i64 a, v], .pointer (some ⟨B, 0, none⟩)] w fun e w' => e = .returned (.bool (a == m)) ∧ Below w.heap.size w w' := by
  have hne : ¬ B = w.heap.size := by omega
  go_enter Tryz.func126, Tryz.ntmps126
  go_wp2
  go_ret
  exact ⟨rfl, (Below.refl _ _).alloc (Nat.le_refl _) _⟩
set_option maxHeartbeats 4000000 in
set_option maxRecDepth 100000 in
theorem idxRow_any (rs : List (Nat × Value)) (m : Int) (B : Nat) (a : Option Addr) (cap lo : Nat) (w : World) (hB : w.cell? ⟨B, 0, none⟩ = some (.int .i64 m)) (hl : B < w.heap.size) (hrow : w.ownsRow lo 187 2 (.slice a rs.length cap) rs.length (rowCells rs)) (hn : rs.length ≤ 1000) :
    Calls Tryz.prog 125 #[.slice a rs.length cap, .func (.func 126) #[] #[.pointer (some ⟨B, 0, none⟩)]] w fun e w' => e = .returned (.int .i64 (idxN (rs.findIdx? (fun r => (r.1 : Int) == m)))) ∧ Below w.heap.size w w' := by
  have eg : ∀ args w, (callFunc 126 args).run Tryz.prog w = .ok (.enter 126 args) w := enters_of Tryz.func126 (by kernel_rfl) rfl
  go_enter Tryz.func125, Tryz.ntmps125
  go_wp2_with fail
  go_loopg [5, 8] (rs.length + 1) (fun q _ i wr => ∃ j : Nat, j ≤ rs.length ∧ i = .int .i64 (j : Int) ∧ Hid (NoRow rs m j) ∧ Below w.heap.size w wr ∧ rs.length - j < q)
  case atStart => exact ⟨0, Nat.zero_le _, rfl, hide (fun i hi _ => absurd hi (Nat.not_lt_zero _)), Below.refl _ _, by omega⟩
  case round =>
    obtain ⟨j, hj, rfl, hno, hb, hq⟩ := hrel
    by_cases hlt : j < rs.length
    · have hlt' : (j : Int) < (rs.length : Int) := by omega
      obtain ⟨h1, h2⟩ := rowCells_at rs j hlt
      rcases hrow.2 with ⟨e', h0⟩ | ⟨g, cap', cur, e', hlo, hgb, -⟩
      · omega
      obtain ⟨rfl, rfl⟩ : a = some ⟨g, 0, none⟩ ∧ cap = cap' := by
        injection e' with e1 e2 e3
        exact ⟨e1, e3⟩
      have hgl : g < w.heap.size := (Array.getElem?_eq_some_iff.1 hgb).1
      have c1 := cell_below hb (by have := hrow.cells rfl _ _ h1; rwa [Addr.add_lit, Nat.zero_add] at this) hgl
      have c2 := cell_below hb (by have := hrow.cells rfl _ _ h2; rwa [Addr.add_lit, Nat.zero_add] at this) hgl
      have HB := hide (cell_below hb hB hl)
      have hBl : B < wr.heap.size := by have := hb.size; omega
      have hwr : IntKind.i64.wrap ((j : Int) + 1) = (j : Int) + 1 := by rw [IntKind.wrap_i64]; omega
      have HQ := hide hq
      clear h1 h2 hq hgb e'
      have HN : Hid (∀ b, ((rs[j].1 : Int) == m) = b → (b = true → rs.findIdx? (fun r => (r.1 : Int) == m) = some j) ∧ (b = false → NoRow rs m (j + 1))) := hide (fun b hb' => ⟨fun e => noRow_some hno.out hlt (beq_iff_eq.1 (hb'.trans e)), fun e a ha h => by
          by_cases e1 : a = j
          · subst e1; exact beq_eq_false_iff_ne.1 (hb'.trans e)
          · exact hno.out a (by omega) h⟩)
      have HC := hide (isRow_any (rs[j].1 : Int) m rs[j].2 B wr HB.out hBl)
      generalize ((rs[j].1 : Int) == m) = bb at HC HN
      have HN' := HN.out bb rfl
      have HN2 := hide HN'
      clear HN HN' hno
      cases bb
      · have HF := hide (HN2.out.2 rfl)
        clear HN2
        go_wp2_with (go_at_fn 126; refine HC.out.mono ?_; rintro e w2 ⟨rfl, hb2⟩)
        have hq := HQ.out
        go_roundg (rs.length - j)
        case measure => omega
        case rel => exact ⟨j + 1, by omega, by go_num, HF, hb.trans (hb2.mono hb.size), by omega⟩
      · have HF := hide (HN2.out.1 rfl)
        clear HN2
        go_wp2_with (go_at_fn 126; refine HC.out.mono ?_; rintro e w2 ⟨rfl, hb2⟩)
        go_ret
        exact ⟨by rw [HF.out]; rfl, hb.trans (hb2.mono hb.size)⟩
    · have hlt' : (rs.length : Int) ≤ (j : Int) := by omega
      have hj' : j = rs.length := by omega
      have HF := hide (noRow_none (hj' ▸ hno.out))
      clear hno hq hj'
      go_wp2_with fail
      go_ret
      exact ⟨by rw [HF.out]; rfl, hb⟩
end Go.Proofs.YtbkeflgafjnefaaGreatDoor
namespace Go.Proofs.YtbkeflgafjnefaaGreatDoor
open Go.RowKit
/-- What a call may have turned: blocks of F, and new ones. -/
structure Stp (F : Nat → Prop) (w w' : World) : Prop where
  os : w'.os = w.os
  tape : w'.tape = w.tape
  output : w'.output = w.output
  size : w.heap.size ≤ w'.heap.size
  block : ∀ k, k < w.heap.size → ¬ F k → w'.heap[k]? = w.heap[k]?
/-- What was F's, and what is new. -/
def Gro (F : Nat → Prop) (w : World) (k : Nat) : Prop := (k < w.heap.size ∧ F k) ∨ w.heap.size ≤ k
theorem Gro.new {F : Nat → Prop} {w : World} {k : Nat} (h : w.heap.size ≤ k) : Gro F w k := .inr h
theorem Gro.old {F : Nat → Prop} {w : World} {k : Nat} (h : k < w.heap.size) (hF : F k) : Gro F w k := .inl ⟨h, hF⟩
theorem Gro.any {F : Nat → Prop} {w : World} {k : Nat} (hF : F k) : Gro F w k := by
  by_cases h : k < w.heap.size
  · exact .inl ⟨h, hF⟩
  · exact .inr (by omega)
theorem Gro.gro {F : Nat → Prop} {w w1 : World} (hs : w.heap.size ≤ w1.heap.size) {k : Nat} (h : Gro (Gro F w) w1 k) : Gro F w k := by
  rcases h with ⟨_, h⟩ | h
  · exact h
  · exact .inr (by omega)
theorem Stp.refl (F : Nat → Prop) (w : World) : Stp F w w := ⟨rfl, rfl, rfl, Nat.le_refl _, fun _ _ _ => rfl⟩
theorem Stp.trans {F : Nat → Prop} {w w1 w2 : World} (h : Stp F w w1) (h2 : Stp (Gro F w) w1 w2) : Stp F w w2 :=
  ⟨h2.os.trans h.os, h2.tape.trans h.tape, h2.output.trans h.output, Nat.le_trans h.size h2.size, fun k hk hF => (h2.block k (Nat.lt_of_lt_of_le hk h.size) (fun hg => by
    rcases hg with ⟨_, h'⟩ | h'
    · exact hF h'
    · omega)).trans (h.block k hk hF)⟩
theorem Stp.mono {F F' : Nat → Prop} {w w1 : World} (h : Stp F w w1) (hF : ∀ k, k < w.heap.size → F k → F' k) : Stp F' w w1 :=
  ⟨h.os, h.tape, h.output, h.size, fun k hk hn => h.block k hk (fun h' => hn (hF k hk h'))⟩
theorem Stp.andThen {F : Nat → Prop} {w w1 w2 : World} (h : Stp F w w1) (h2 : Stp F w1 w2) : Stp F w w2 := h.trans (h2.mono (fun _ _ hF => Gro.any hF))
theorem Stp.of {F : Nat → Prop} {w w1 : World} (h : Below w.heap.size w w1) : Stp F w w1 := ⟨h.os, h.tape, h.output, h.size, fun k hk _ => h.block k hk⟩
theorem Stp.grown {F : Nat → Prop} {w w1 : World} {row : Option Nat} (h : w.grownBy w1 row) (hr : ∀ k, row = some k → F k) : Stp F w w1 := ⟨h.os, h.tape, h.output, h.size, fun k hk hF => h.block k hk (fun e => hF (hr k e.symm))⟩
theorem Stp.set {F : Nat → Prop} {w : World} (b i : Nat) (v : Value) (hF : F b) : Stp F w (w.setCell ⟨b, i, none⟩ v) :=
  ⟨rfl, rfl, rfl, by simp [World.setCell], fun k _ hn => Below.heap_setCell _ _ _ k (fun e => hn (by rw [e]; exact hF))⟩
theorem Stp.below {F : Nat → Prop} {w w1 : World} (h : Stp F w w1) {B : Nat} (hB : ∀ k, k < w.heap.size → F k → B ≤ k) (hs : B ≤ w.heap.size) : Below B w w1 :=
  ⟨h.os, h.tape, h.output, h.size, fun k hk => h.block k (by omega) (fun hF => by have := hB k (by omega) hF; omega)⟩
/-- A block of F. -/
def Blk (F : Nat → Prop) (w : World) (b : Nat) (cs : Array Value) (t : TypeId) : Prop := F b ∧ w.heap[b]? = some (.cells cs t (0, 0))
/-- From one world and its blocks to another. -/
def Mov (F F' : Nat → Prop) (w w' : World) : Prop := ∀ k, k < w.heap.size → F k → F' k ∧ w'.heap[k]? = w.heap[k]?
theorem Mov.sub {F F' : Nat → Prop} {w w' : World} (h : Mov F F' w w') (c : Nat → Nat) (i : Nat) : Mov (fun k => F k ∧ c k = i) (fun k => F' k ∧ c k = i) w w' := fun k hk hF => ⟨⟨(h k hk hF.1).1, hF.2⟩, (h k hk hF.1).2⟩
theorem Mov.gro {F : Nat → Prop} {w w' : World} (h : Below w.heap.size w w') : Mov F (Gro F w) w w' := fun k hk hF => ⟨Gro.old hk hF, h.block k hk⟩
theorem Mov.grow {F : Nat → Prop} {w w' : World} {G : Nat → Prop} (h : Stp G w w') (hG : ∀ k, F k → ¬ G k) : Mov F (Gro F w) w w' := fun k hk hF => ⟨Gro.old hk hF, h.block k hk (hG k hF)⟩
theorem Mov.to {F F' : Nat → Prop} {w : World} (h : ∀ k, k < w.heap.size → F k → F' k) : Mov F F' w w := fun k hk hF => ⟨h k hk hF, rfl⟩
theorem Mov.id {F : Nat → Prop} {w : World} : Mov F F w w := fun _ _ hF => ⟨hF, rfl⟩
theorem Blk.lt {F : Nat → Prop} {w : World} {b : Nat} {cs : Array Value} {t : TypeId} (h : Blk F w b cs t) : b < w.heap.size := (Array.getElem?_eq_some_iff.1 h.2).1
theorem Blk.move {F F' : Nat → Prop} {w w' : World} {b : Nat} {cs : Array Value} {t : TypeId} (h : Blk F w b cs t) (m : Mov F F' w w') : Blk F' w' b cs t := by
  obtain ⟨h1, h2⟩ := m b h.lt h.1
  exact ⟨h1, h2.trans h.2⟩
theorem Blk.cell {F : Nat → Prop} {w : World} {b : Nat} {cs : Array Value} {t : TypeId} (h : Blk F w b cs t) {i : Nat} {x : Value} (hx : cs[i]? = some x) : w.cell? ⟨b, i, none⟩ = some x := by simp [World.cell?, h.2, hx]
theorem Blk.free {F : Nat → Prop} {w : World} {b : Nat} {cs : Array Value} {t : TypeId} (h : Blk F w b cs t) {i : Nat} : w.frozen? ⟨b, i, none⟩ = false := by simp [World.frozen?, h.2]
theorem Blk.set {F : Nat → Prop} {w : World} {b : Nat} {cs : Array Value} {t : TypeId} (h : Blk F w b cs t) (i : Nat) (v : Value) : Blk F (w.setCell ⟨b, i, none⟩ v) b (cs.setIfInBounds i v) t := ⟨h.1, heap_setCell_same w b i cs t v h.2⟩
/-- A row of F. -/
def RowF (F : Nat → Prop) (w : World) (e : TypeId) (size : Nat) (v : Value) (n : Nat) (xs : List Value) : Prop := w.ownsRow 0 e size v n xs ∧ ∀ k, v.ownBlock = some k → F k
theorem RowF.move {F F' : Nat → Prop} {w w' : World} {e : TypeId} {size n : Nat} {v : Value} {xs : List Value} (h : RowF F w e size v n xs) (m : Mov F F' w w') : RowF F' w' e size v n xs := by
  obtain ⟨⟨h1, h2⟩, h3⟩ := h
  rcases h2 with hn | ⟨g, cap, cur, rfl, hl, hgg, rest⟩
  · refine ⟨⟨h1, .inl hn⟩, ?_⟩
    rw [hn.1]
    intro k hk
    simp [Value.ownBlock] at hk
  · have hlt : g < w.heap.size := (Array.getElem?_eq_some_iff.1 hgg).1
    obtain ⟨m1, m2⟩ := m g hlt (h3 g rfl)
    refine ⟨⟨h1, .inr ⟨g, cap, cur, rfl, hl, m2.trans hgg, rest⟩⟩, ?_⟩
    intro k hk
    obtain rfl : g = k := by simpa [Value.ownBlock] using hk
    exact m1
theorem RowF.shape {F : Nat → Prop} {w : World} {e : TypeId} {size n : Nat} {v : Value} {xs : List Value} (h : RowF F w e size v n xs) : ∃ a cap, v = .slice a n cap := by
  rcases h.1.2 with ⟨rfl, rfl⟩ | ⟨g, cap, cur, rfl, _⟩
  · exact ⟨_, _, rfl⟩
  · exact ⟨_, _, rfl⟩
theorem RowF.got {F : Nat → Prop} {w : World} {e : TypeId} {size n : Nat} {v : Value} {xs : List Value} (h : RowF F w e size v n xs) (hn : 0 < n) : ∃ g cap, v = .slice (some ⟨g, 0, none⟩) n cap ∧ n ≤ cap ∧ F g ∧ g < w.heap.size := by
  rcases h.1.2 with ⟨rfl, rfl⟩ | ⟨g, cap, cur, rfl, _, hg, hc, _⟩
  · omega
  · exact ⟨g, cap, rfl, hc, h.2 g rfl, (Array.getElem?_eq_some_iff.1 hg).1⟩
theorem RowF.nil (F : Nat → Prop) (w : World) (e : TypeId) (size : Nat) : RowF F w e size (.slice none 0 0) 0 [] := ⟨World.ownsRow_nil _ _ _ _, fun k hk => by simp [Value.ownBlock] at hk⟩
theorem RowF.apart {F : Nat → Prop} {w : World} {n k size : Nat} {e T : TypeId} {v : Value} {xs : List Value} {cs : Array Value} (hrow : RowF F w e size v n xs) (h : w.heap[k]? = some (.cells cs T (0, 0))) (hT : T ≠ e) : v.ownBlock ≠ some k := by
  rcases hrow.1.2 with ⟨rfl, _⟩ | ⟨g, cap, cur, rfl, _, hgb, _⟩
  · simp [Value.ownBlock]
  · intro e'
    simp [Value.ownBlock] at e'
    subst e'
    rw [h] at hgb
    simp at hgb
    exact hT hgb.2
theorem ownsRow_low {w : World} {lo : Nat} {e : TypeId} {size n : Nat} {v : Value} {xs : List Value} (h : w.ownsRow lo e size v n xs) : w.ownsRow 0 e size v n xs := by
  refine ⟨h.1, ?_⟩
  rcases h.2 with hn | ⟨g, cap, cur, rfl, hb, rest⟩
  · exact .inl hn
  · exact .inr ⟨g, cap, cur, rfl, Nat.zero_le _, rest⟩
theorem RowF.new {F : Nat → Prop} {w : World} {lo : Nat} {e : TypeId} {size n : Nat} {v : Value} {xs : List Value} (h : w.ownsRow lo e size v n xs) (hF : ∀ k, lo ≤ k → F k) : RowF F w e size v n xs := ⟨ownsRow_low h, fun k hk => hF k (h.lt k hk).1⟩
/-- A store into another block than the row's. -/
theorem RowF.set {F : Nat → Prop} {w : World} {e : TypeId} {size n : Nat} {v : Value} {xs : List Value} (h : RowF F w e size v n xs) {b : Nat} (hb : v.ownBlock ≠ some b) (i : Nat) (u : Value) : RowF F (w.setCell ⟨b, i, none⟩ u) e size v n xs := by
  refine ⟨⟨h.1.1, ?_⟩, h.2⟩
  rcases h.1.2 with hn | ⟨g, cap, cur, rfl, hl, hgg, rest⟩
  · exact .inl hn
  · exact .inr ⟨g, cap, cur, rfl, hl, (Below.heap_setCell _ _ _ g (fun e' => hb (by simp [Value.ownBlock, e']))).trans hgg, rest⟩
theorem RowF.cells {F : Nat → Prop} {w : World} {e : TypeId} {size n g cap : Nat} {xs : List Value} (h : RowF F w e size (.slice (some ⟨g, 0, none⟩) n cap) n xs) {i : Nat} {x : Value} (hx : xs[i]? = some x) : w.cell? ⟨g, i, none⟩ = some x := by
  have := h.1.cells rfl i _ hx
  rwa [Addr.add_lit, Nat.zero_add] at this
theorem RowF.keep {F F' : Nat → Prop} {w w' : World} {e : TypeId} {size n : Nat} {v : Value} {xs : List Value} (h : RowF F w e size v n xs) (hm : ∀ k cs, v.ownBlock = some k → w.heap[k]? = some (.cells cs e (0, 0)) → k < w.heap.size → F k → F' k ∧ w'.heap[k]? = w.heap[k]?) : RowF F' w' e size v n xs := by
  rcases h.1.2 with ⟨rfl, rfl⟩ | ⟨g, cap, cur, rfl, hz, hgb, rest⟩
  · exact ⟨⟨h.1.1, .inl ⟨rfl, rfl⟩⟩, fun k hk => by simp [Value.ownBlock] at hk⟩
  · obtain ⟨h1, h2⟩ := hm g cur rfl hgb (Array.getElem?_eq_some_iff.1 hgb).1 (h.2 g rfl)
    refine ⟨⟨h.1.1, .inr ⟨g, cap, cur, rfl, hz, h2.trans hgb, rest⟩⟩, fun k hk => ?_⟩
    obtain rfl : g = k := by simpa [Value.ownBlock] using hk
    exact h1
/-- A row stays where one block of another type, and one row of another type, are turned. -/
theorem RowF.past {F : Nat → Prop} {w w' : World} {e e2 T : TypeId} {size n size2 n2 b : Nat} {v rv : Value} {xs xs2 : List Value} {cs : Array Value} (h : RowF F w e size v n xs) (hs : Stp (fun q => q = b ∨ rv.ownBlock = some q) w w') (hb : w.heap[b]? = some (.cells cs T (0, 0))) (hT : T ≠ e) (hr : RowF F w e2 size2 rv n2 xs2) (he : e ≠ e2) : RowF (Gro F w) w' e size v n xs :=
  h.keep (fun k _ hk hgb hlt hF => ⟨Gro.old hlt hF, hs.block k hlt (by
    rintro (rfl | e')
    · exact h.apart hb hT hk
    · exact hr.apart hgb he e')⟩)
end Go.Proofs.YtbkeflgafjnefaaGreatDoor
