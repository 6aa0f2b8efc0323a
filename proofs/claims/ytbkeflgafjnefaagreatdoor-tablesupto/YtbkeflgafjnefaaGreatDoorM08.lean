/- Towards the law of tables: ScanParts, TokFine. -/
import Derived.Test.YtbkeflgafjnefaaGreatDoorProg
import Derived.WalkKit
import Derived.WalkSpells
import Derived.WalkLawsBesides
import Derived.Maps.AppendAt
import Derived.Deep.Draws
import Derived.Test.YtbkeflgafjnefaaGreatDoorM01
import Derived.Test.YtbkeflgafjnefaaGreatDoorM02
import Derived.Test.YtbkeflgafjnefaaGreatDoorM03
namespace Go.Proofs.YtbkeflgafjnefaaGreatDoor
open Go.RowKit

/-- The Scan in block b: its tokens, how far they are read, whether they are bad, the greatest depth. -/
def ScanIs (w : World) (b : Nat) (v : Value) (p : Int) (bad : Bool) (deep : Int) : Prop :=
  w.heap[b]? = some (.cells #[v, .int .i64 p, .bool bad, .int .i64 deep] 374 (0, 0))
/-- The row of the tokens ts, not in block b. -/
def RowIs (w : World) (b : Nat) (v : Value) (ts : List ByteArray) : Prop :=
  (v = .slice none 0 0 ∧ ts = []) ∨ ∃ g cap cur, v = .slice (some ⟨g, 0, none⟩) ts.length cap ∧ g ≠ b ∧ g < w.heap.size ∧ w.heap[g]? = some (.cells cur 9 (0, 0)) ∧ cur.toList.take ts.length = ts.map Value.string
theorem RowIs.kept {w w' : World} {b : Nat} {v : Value} {ts : List ByteArray} (h : RowIs w b v ts) (hg : w.grownBy w' (some b)) : RowIs w' b v ts := by
  rcases h with h | ⟨g, cap, cur, h1, h2, h3, h4, h5⟩
  · exact .inl h
  · exact .inr ⟨g, cap, cur, h1, h2, Nat.lt_of_lt_of_le h3 hg.size, (hg.block g h3 (by simpa using h2)).trans h4, h5⟩
theorem ScanIs.lt {w : World} {b : Nat} {v : Value} {p : Int} {bad : Bool} {deep : Int} (h : ScanIs w b v p bad deep) : b < w.heap.size := by
  rcases Nat.lt_or_ge b w.heap.size with h' | h'
  · exact h'
  · rw [ScanIs, Array.getElem?_eq_none h'] at h; cases h
theorem ScanIs.cells {w : World} {b : Nat} {v : Value} {p : Int} {bad : Bool} {deep : Int} (h : ScanIs w b v p bad deep) :
    w.cell? ⟨b, 0, none⟩ = some v ∧ w.cell? ⟨b, 1, none⟩ = some (.int .i64 p) ∧ w.cell? ⟨b, 2, none⟩ = some (.bool bad) ∧ w.cell? ⟨b, 3, none⟩ = some (.int .i64 deep) := by
  rw [ScanIs] at h
  simp [World.cell?, h]
theorem ScanIs.free {w : World} {b : Nat} {v : Value} {p : Int} {bad : Bool} {deep : Int} (h : ScanIs w b v p bad deep) (o : Nat) : w.frozen? ⟨b, o, none⟩ = false := by
  rw [ScanIs] at h
  simp [World.frozen?, h]
theorem heap_setCell {w : World} {b o : Nat} {cs : Array Value} {t : TypeId} {m : Nat × Nat} (h : w.heap[b]? = some (.cells cs t m)) (x : Value) :
    (w.setCell ⟨b, o, none⟩ x).heap[b]? = some (.cells (cs.setIfInBounds o x) t m) := by
  obtain ⟨hlt, hk⟩ := Array.getElem?_eq_some_iff.1 h
  show (w.heap.modify b _)[b]? = _
  rw [Array.getElem?_eq_getElem (by rw [Array.size_modify]; exact hlt), Array.getElem_modify_self, hk]
  rfl
theorem grownBy_set (w : World) (b o : Nat) (x : Value) : w.grownBy (w.setCell ⟨b, o, none⟩ x) (some b) :=
  ⟨rfl, rfl, rfl, by show w.heap.size ≤ (w.heap.modify b _).size; rw [Array.size_modify]; exact Nat.le_refl _, fun k _ hk => Below.heap_setCell _ _ _ k (fun e => hk (by rw [e]))⟩
theorem grownBy_refl (w : World) (r : Option Nat) : w.grownBy w r := ⟨rfl, rfl, rfl, Nat.le_refl _, fun _ _ _ => rfl⟩
theorem grownBy_drew (w : World) (r : Option Nat) : w.grownBy w.drew r := ⟨rfl, rfl, rfl, Nat.le_refl _, fun _ _ _ => rfl⟩
theorem grownBy_drewN (w : World) (n : Nat) (r : Option Nat) : w.grownBy (w.drewN n) r := ⟨rfl, rfl, rfl, Nat.le_refl _, fun _ _ _ => rfl⟩
/-- The token at the place p (behind the last: the empty one). -/
def tokAt (ts : List ByteArray) (p : Int) : ByteArray := ts.getD p.toNat ⟨#[]⟩
theorem RowIs.cell {w : World} {b : Nat} {v : Value} {ts : List ByteArray} (h : RowIs w b v ts) (p : Nat) (hp : p < ts.length) :
    ∃ g cap, v = .slice (some ⟨g, 0, none⟩) ts.length cap ∧ w.cell? ⟨g, p, none⟩ = some (.string (tokAt ts p)) := by
  rcases h with ⟨_, rfl⟩ | ⟨g, cap, cur, h1, h2, h3, h4, h5⟩
  · exact absurd hp (Nat.not_lt_zero _)
  · refine ⟨g, cap, h1, ?_⟩
    have e : cur[p]? = some (.string (tokAt ts p)) := by
      have : (cur.toList.take ts.length)[p]? = (ts.map Value.string)[p]? := by rw [h5]
      rw [List.getElem?_take_of_lt hp, Array.getElem?_toList] at this
      rw [this, List.getElem?_map, List.getElem?_eq_getElem hp]
      simp [tokAt, List.getD, List.getElem?_eq_getElem hp]
    simp [World.cell?, h4, e]
theorem RowIs.len {w : World} {b : Nat} {v : Value} {ts : List ByteArray} (h : RowIs w b v ts) : ∃ a cap, v = .slice a ts.length cap := by
  rcases h with ⟨rfl, rfl⟩ | ⟨g, cap, cur, h1, h2, h3, h4, h5⟩
  · exact ⟨_, _, rfl⟩
  · exact ⟨_, _, h1⟩
theorem ScanIs.set1 {w : World} {b : Nat} {v : Value} {p : Int} {bad : Bool} {deep : Int} (h : ScanIs w b v p bad deep) (q : Int) : ScanIs (w.setCell ⟨b, 1, none⟩ (.int .i64 q)) b v q bad deep := heap_setCell h _
theorem ScanIs.set2 {w : World} {b : Nat} {v : Value} {p : Int} {bad : Bool} {deep : Int} (h : ScanIs w b v p bad deep) (q : Bool) : ScanIs (w.setCell ⟨b, 2, none⟩ (.bool q)) b v p q deep := heap_setCell h _
theorem ScanIs.set3 {w : World} {b : Nat} {v : Value} {p : Int} {bad : Bool} {deep : Int} (h : ScanIs w b v p bad deep) (q : Int) : ScanIs (w.setCell ⟨b, 3, none⟩ (.int .i64 q)) b v p bad q := heap_setCell h _
theorem ScanIs.drewN {w : World} {b : Nat} {v : Value} {p : Int} {bad : Bool} {deep : Int} (h : ScanIs w b v p bad deep) (n : Nat) : ScanIs (w.drewN n) b v p bad deep := h
theorem ScanIs.alloc {w : World} {b : Nat} {v : Value} {p : Int} {bad : Bool} {deep : Int} (h : ScanIs w b v p bad deep) (o : Obj) : ScanIs (w.alloc o) b v p bad deep :=
  (Below.heap_alloc w o b h.lt).trans h
end Go.Proofs.YtbkeflgafjnefaaGreatDoor
namespace Go.Proofs.YtbkeflgafjnefaaGreatDoor
open Go.RowKit
open Trib
/-- What every token of a text is: no longer than the text; a word has both its signs. -/
def TokFine (s : ByteArray) (t : List UInt8) : Prop := t.length ≤ s.size ∧ (t.head? = some 39 → 2 ≤ t.length)
theorem sub_len (s : ByteArray) (a e : Nat) (he : e ≤ s.size) : (sub s a e).length = e - a := by
  rw [sub, len_eq, ByteArray.size_extract]; omega
theorem sub_head (s : ByteArray) (a e : Nat) (h : a < e) (he : e ≤ s.size) : (sub s a e).head? = some (s[a]'(by omega)) := by
  rw [sub, ByteArray.data_extract, Array.toList_extract, List.head?_eq_getElem?]
  simp only [List.extract]
  rw [List.getElem?_take_of_lt (by omega), List.getElem?_drop, Nat.add_zero, List.getElem?_eq_getElem (by rw [len_eq]; omega)]
  rfl
theorem tkStep_fine {s : ByteArray} {k : Nat} {last t : List UInt8} {k' : Nat} (hk : k < s.size) (h : tkStep s k last = some (some t, k')) : TokFine s t := by
  have hlt := tkStep_lt hk h
  have g1 := spanEnd_ge isLet s (k + 1)
  have g2 := spanEnd_ge isDig s (k + 1)
  have g3 := spanEnd_ge notQuote s (k + 1)
  have e1 := spanEnd_le isLet s (k + 1) hk
  have e2 := spanEnd_le isDig s (k + 1) hk
  unfold tkStep at h
  rw [getBang s k hk] at h
  repeat' split at h
  all_goals first | (cases h; done) | skip
  · rename_i hl _
    simp only [Option.some.injEq, Prod.mk.injEq] at h
    obtain ⟨rfl, rfl⟩ := h
    refine ⟨by rw [sub_len _ _ _ e1]; omega, fun hh => ?_⟩
    rw [sub_head _ _ _ (by omega) e1] at hh
    rw [Option.some.inj hh] at hl
    exact absurd hl (by decide)
  · rename_i hl hd _
    simp only [Option.some.injEq, Prod.mk.injEq] at h
    obtain ⟨rfl, rfl⟩ := h
    refine ⟨by rw [sub_len _ _ _ e2]; omega, fun hh => ?_⟩
    rw [sub_head _ _ _ (by omega) e2] at hh
    have h39 := Option.some.inj hh
    have hm : isMinus s k last = false := by rw [isMinus, getBang s k hk, h39]; rfl
    rw [h39, hm] at hd
    exact absurd hd (by decide)
  · rename_i hq _
    simp only [Option.some.injEq, Prod.mk.injEq] at h
    obtain ⟨rfl, rfl⟩ := h
    have hlt2 := hlt.2
    simp only at hlt2
    refine ⟨by rw [sub_len _ _ _ hlt2]; omega, fun _ => by rw [sub_len _ _ _ hlt2]; omega⟩
  · rename_i hq _
    simp only [Option.some.injEq, Prod.mk.injEq] at h
    obtain ⟨rfl, rfl⟩ := h
    refine ⟨by rw [sub_len _ _ _ (by omega)]; omega, fun hh => ?_⟩
    rw [sub_head _ _ _ (by omega) (by omega)] at hh
    rw [Option.some.inj hh] at hq
    exact absurd rfl hq
theorem tkRun_fine {s : ByteArray} : ∀ (f k : Nat) (last : List UInt8) (l : List (List UInt8)), tkRun s f k last = some l → ∀ t ∈ l, TokFine s t := by
  intro f
  induction f with
  | zero => intro k last l h; cases h
  | succ f ih =>
    intro k last l h t ht
    rw [tkRun] at h
    by_cases hk : k < s.size
    · rw [if_pos hk] at h
      cases hs : tkStep s k last with
      | none => rw [hs] at h; cases h
      | some x =>
        obtain ⟨o, k'⟩ := x
        rw [hs] at h
        cases o with
        | none => exact ih _ _ _ h t ht
        | some t0 =>
          simp only [Option.map_eq_some_iff] at h
          obtain ⟨l', hl', rfl⟩ := h
          rcases List.mem_cons.1 ht with rfl | ht'
          · exact tkStep_fine hk hs
          · exact ih _ _ _ hl' t ht'
    · rw [if_neg hk] at h
      obtain rfl := Option.some.inj h
      cases ht
/-- The error of a text: 0 none, 1 ErrText, 2 ErrDeep. -/
def readErr (s : ByteArray) : Nat := if 400 < s.size then 1 else match tokensOf s with
  | none => 1
  | some l => readP (l.map kindOf)
end Go.Proofs.YtbkeflgafjnefaaGreatDoor
