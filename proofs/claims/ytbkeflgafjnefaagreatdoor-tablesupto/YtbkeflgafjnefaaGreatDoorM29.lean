/- Towards the law of tables: T7. -/
import Derived.Test.YtbkeflgafjnefaaGreatDoorM28
namespace Go.Proofs.YtbkeflgafjnefaaGreatDoor
open Go.RowKit
open Trib
theorem idxB_found (o : Option Nat) : decide (0 ≤ idxB o) = o.isSome := by
  cases o with
  | none => rfl
  | some i => simp [idxB]
theorem ptrsR_snoc (bs : List Nat) (k : Nat) : ptrsR (bs ++ [k]) = ptrsR bs ++ [.pointer (some ⟨k, 0, none⟩)] := by simp [ptrsR]
theorem nexts_snoc (l : List Tb) (t : Tb) : nexts (l ++ [t]) = nexts l ++ [.int .i64 ((t.last + 1 : Nat) : Int)] := by simp [nexts]
theorem rcreate_close {F : Nat → Prop} {w : World} {b : Nat} {lv gv : Value} {g : Eng} {c : Nat → Nat} {tv nv : Value} {bs : List Nat} (h0 : bs.length = g.tables.length) (h1 : Blk (colr F c 0) w b #[tv, nv, lv, gv, .int .i64 g.clock] 91) (h2 : RowF (colr F c 0) w 287 1 tv bs.length (ptrsR bs)) (h4 : RowF (colr F c 0) w 3 1 nv bs.length (nexts g.tables)) (h3 : ∀ i (h : i < bs.length) (h2 : i < g.tables.length), RTbAt (colr F c (i + 1)) w bs[i] g.tables[i])
    (name : ByteArray) (l : List (ByteArray × Nat)) {w' : World} (hr : RCreOk w b tv nv lv gv (.int .i64 g.clock) bs (nexts g.tables) name l w') : REngAt (Gro F w) w' b lv gv { g with tables := g.tables ++ [⟨name, l, [], 0⟩] } ∧ Stp F w w' := by
  obtain ⟨cv, k, tv', nv', hc, hk, hkb, hbb, ht', hn', hto, hno, hst⟩ := hr
  have hbl := h1.lt
  have hst0 : Stp (colr F c 0) w w' := hst.mono (fun q _ hq => by
    rcases hq with rfl | hq | hq
    · exact h1.1
    · exact h2.2 q hq
    · exact h4.2 q hq)
  have hkt : ∀ q, tv'.ownBlock = some q → q ≠ k := fun q hq e => by
    subst e
    exact rowApart ht' hkb (by decide) hq
  have hkn : ∀ q, nv'.ownBlock = some q → q ≠ k := fun q hq e => by
    subst e
    exact rowApart hn' hkb (by decide) hq
  -- the new blocks of the rows have the engine's colour, all others the new table's
  refine ⟨⟨fun q => if q < w.heap.size then c q else if tv'.ownBlock = some q ∨ nv'.ownBlock = some q then 0 else bs.length + 1, tv', nv', bs ++ [k], by simp [h0], ?_, ?_, ?_, ?_⟩, hst0.mono (fun _ _ h => h.1)⟩
  · refine ⟨⟨Gro.any h1.1.1, ?_⟩, hbb⟩
    show (if b < w.heap.size then c b else _) = 0
    rw [if_pos hbl]; exact h1.1.2
  · refine ⟨by rw [ptrsR_snoc, List.length_append]; exact ht', fun q hq => ?_⟩
    rcases hto q hq with h | h
    · have hq' := h2.2 _ h
      refine ⟨Gro.any hq'.1, ?_⟩
      show (if q < w.heap.size then c q else _) = 0
      rw [if_pos (h2.1.lt q h).2]; exact hq'.2
    · refine ⟨Gro.new h, ?_⟩
      show (if q < w.heap.size then c q else if tv'.ownBlock = some q ∨ nv'.ownBlock = some q then 0 else bs.length + 1) = 0
      rw [if_neg (by omega), if_pos (.inl hq)]
  · refine ⟨by
      show w'.ownsRow 0 _ 1 nv' (bs ++ [k]).length (nexts (g.tables ++ [_]))
      rw [nexts_snoc, List.length_append]; exact hn', fun q hq => ?_⟩
    rcases hno q hq with h | h
    · have hq' := h4.2 _ h
      refine ⟨Gro.any hq'.1, ?_⟩
      show (if q < w.heap.size then c q else _) = 0
      rw [if_pos (h4.1.lt q h).2]; exact hq'.2
    · refine ⟨Gro.new h, ?_⟩
      show (if q < w.heap.size then c q else if tv'.ownBlock = some q ∨ nv'.ownBlock = some q then 0 else bs.length + 1) = 0
      rw [if_neg (by omega), if_pos (.inr hq)]
  · intro i hi1 hi2
    have hi2' : i < g.tables.length + 1 := by simpa using hi2
    by_cases hi : i < bs.length
    · have hig : i < g.tables.length := by omega
      have ea : (bs ++ [k])[i] = bs[i] := List.getElem_append_left hi
      have eb : (g.tables ++ [(⟨name, l, [], 0⟩ : Tb)])[i]'(by simpa using hi2') = g.tables[i] := List.getElem_append_left hig
      show RTbAt _ _ ((bs ++ [k])[i]) ((g.tables ++ [(⟨name, l, [], 0⟩ : Tb)])[i]'(by simpa using hi2'))
      rw [ea, eb]
      refine (h3 i hi hig).move (fun q hq hF => ⟨⟨Gro.old hq hF.1, ?_⟩, hst0.block q hq (fun h => by have a := hF.2; have b := h.2; omega)⟩)
      show (if q < w.heap.size then c q else _) = i + 1
      rw [if_pos hq]; exact hF.2
    · have hie : i = bs.length := by omega
      subst hie
      have ea : (bs ++ [k])[bs.length]'(by simp) = k := by simp
      have eb : (g.tables ++ [(⟨name, l, [], 0⟩ : Tb)])[bs.length]'(by simp [h0]) = ⟨name, l, [], 0⟩ := by simp [h0]
      show RTbAt _ _ ((bs ++ [k])[bs.length]'(by simp)) ((g.tables ++ [(⟨name, l, [], 0⟩ : Tb)])[bs.length]'(by simp [h0]))
      rw [ea, eb]
      have hnew : RTbAt (fun q => w.heap.size ≤ q ∧ tv'.ownBlock ≠ some q ∧ nv'.ownBlock ≠ some q) w' k ⟨name, l, [], 0⟩ := by
        refine ⟨cv, .slice none 0 0, [], ⟨⟨hk, fun e => hkt k e rfl, fun e => hkn k e rfl⟩, hkb⟩, ⟨ownsRow_low hc, fun q hq => ⟨(hc.lt q hq).1, fun e => ?_, fun e => ?_⟩⟩, RowF.nil _ _ _ _, trivial⟩
        · rcases row_ne hc ht' (by decide) with h | h
          · rw [h] at hq; cases hq
          · exact h (hq.trans e.symm)
        · rcases row_ne hc hn' (by decide) with h | h
          · rw [h] at hq; cases hq
          · exact h (hq.trans e.symm)
      refine hnew.move (fun q _ hF => ⟨⟨Gro.new hF.1, ?_⟩, rfl⟩)
      show (if q < w.heap.size then c q else if tv'.ownBlock = some q ∨ nv'.ownBlock = some q then 0 else bs.length + 1) = bs.length + 1
      rw [if_neg (by have := hF.1; omega), if_neg (by rintro (h | h); exact hF.2.1 h; exact hF.2.2 h)]
theorem rcreate_any {F : Nat → Prop} {w : World} {b : Nat} {lv gv : Value} {g : Eng} {N : Nat} (h : REngAt F w b lv gv g) (ok : EngOk N g) (name cols : ByteArray) (hs1 : name.size ≤ 2000000) (hs2 : cols.size ≤ 2000000) :
    Calls Tryz.prog 109 #[.pointer (some ⟨b, 0, none⟩), .string name, .string cols] w fun e w' => e = .returned (.int .i64 ((createE g name cols).1 : Int)) ∧ REngAt (Gro F w) w' b lv gv (createE g name cols).2 ∧ Stp F w w' := by
  have hE := h
  obtain ⟨c, tv, nv, bs, h0, h1, h2, h4, h3⟩ := h
  have h6 := ok.six
  have core := rcre_core b tv nv lv gv (.int .i64 g.clock) bs (nexts g.tables) (findT g.tables name).isSome (idxB (findT g.tables name)) name cols w h1.2 h2.1 h4.1 (by omega) (hide (fun w' hb => REngAt.find h0 (h1.move (Mov.stay hb)) (h2.move (Mov.stay hb)) (fun i h h' => (h3 i h h').move (Mov.stay hb)) ok.six name)) (idxB_found _) hs1 hs2
  refine core.mono ?_
  intro e w' hr
  have back : ∀ (n : Nat), e = .returned (.int .i64 (n : Int)) → Below w.heap.size w w' → createE g name cols = (n, g) → e = .returned (.int .i64 ((createE g name cols).1 : Int)) ∧ REngAt (Gro F w) w' b lv gv (createE g name cols).2 ∧ Stp F w w' := fun n he hb hc => by
    rw [hc]; exact ⟨he, hE.move (Mov.gro hb), Stp.of hb⟩
  unfold RCreR at hr
  cases hn : nameB name.data.toList with
  | false =>
    rw [hn, if_neg (by decide)] at hr
    exact back 1 hr.1 hr.2 (createE_text (.inl hn))
  | true =>
    rw [hn, if_pos rfl] at hr
    cases hc : colsOf cols.data.toList with
    | none =>
      rw [hc] at hr
      exact back 1 hr.1 hr.2 (createE_text (.inr hc))
    | some l =>
      rw [hc] at hr
      simp only at hr
      cases hx : ((findT g.tables name).isSome || name == logB || name == touchB || twins l) with
      | true =>
        rw [hx, if_pos rfl] at hr
        exact back 3 hr.1 hr.2 (createE_name hn hc hx)
      | false =>
        rw [hx, if_neg (by decide)] at hr
        by_cases hf : 6 ≤ bs.length
        · rw [if_pos hf] at hr
          exact back 7 hr.1 hr.2 (createE_full hn hc hx (by omega))
        · rw [if_neg hf] at hr
          rw [createE_new hn hc hx (by omega)]
          exact ⟨hr.1, rcreate_close h0 h1 h2 h4 h3 name l hr.2⟩
theorem rticks_any {F : Nat → Prop} {w : World} {b : Nat} {lv gv : Value} {g : Eng} (h : REngAt F w b lv gv g) (t : Int) :
    Calls Tryz.prog 112 #[.pointer (some ⟨b, 0, none⟩), .int .i64 t] w fun e w' => e = .returned (.int .i64 (tickE g t).1) ∧ REngAt (Gro F w) w' b lv gv (tickE g t).2 ∧ Stp F w w' := by
  obtain ⟨c, tv, nv, bs, h0, h1, h2, h4, h3⟩ := h
  refine (rtick_any b tv nv lv gv g.clock t w h1.2).mono ?_
  rintro e w' ⟨rfl, hbb, hos, htp, hou, hz, hbl⟩
  have hst : Stp (colr F c 0) w w' := ⟨hos, htp, hou, Nat.le_of_eq hz.symm, fun k _ hn => hbl k (fun e => hn (by rw [e]; exact h1.1))⟩
  have e1 : (tickE g t).1 = tickC g.clock t := by unfold tickE tickC; split <;> rfl
  have e2 : (tickE g t).2 = { g with clock := tickC g.clock t } := by
    unfold tickE tickC
    split <;> rfl
  rw [e1, e2]
  refine ⟨rfl, ⟨c, tv, nv, bs, h0, ⟨⟨Gro.any h1.1.1, h1.1.2⟩, hbb⟩, h2.keep (fun k _ hk hgb hlt hF => ⟨⟨Gro.any hF.1, hF.2⟩, hbl k (fun e => ?_)⟩), h4.keep (fun k _ hk hgb hlt hF => ⟨⟨Gro.any hF.1, hF.2⟩, hbl k (fun e => ?_)⟩), fun i h h' => (h3 i h h').move (fun k hk hF => ⟨⟨Gro.old hk hF.1, hF.2⟩, hst.block k hk (fun hc => by have a := hF.2; have b := hc.2; omega)⟩)⟩, hst.mono (fun _ _ h => h.1)⟩
  · subst e; exact h2.apart h1.2 (by decide) hk
  · subst e; exact h4.apart h1.2 (by decide) hk
theorem reng_new (w : World) : REngAt (fun q => w.heap.size ≤ q) (w.alloc (.cells #[.slice none 0 0, .slice none 0 0, .slice none 0 0, .slice none 0 0, .int .i64 0] 91)) w.heap.size (.slice none 0 0) (.slice none 0 0) eng0 :=
  ⟨fun _ => 0, .slice none 0 0, .slice none 0 0, [], rfl, ⟨⟨Nat.le_refl _, rfl⟩, heap_alloc_new w _⟩, RowF.nil _ _ _ _, RowF.nil _ _ _ _, fun _ h => absurd h (Nat.not_lt_zero _)⟩
end Go.Proofs.YtbkeflgafjnefaaGreatDoor
