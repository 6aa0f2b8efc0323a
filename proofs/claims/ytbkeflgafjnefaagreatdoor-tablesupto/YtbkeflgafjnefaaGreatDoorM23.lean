/- Towards the law of tables: G7, G8. -/
import Derived.Test.YtbkeflgafjnefaaGreatDoorM22
import Derived.Laws.MakeOwn
namespace Go.Proofs.YtbkeflgafjnefaaGreatDoor
open Go.RowKit
open Trib
theorem take_set3 (L : List Value) (m : Nat) (a b c : Value) (h : m + 3 ≤ L.length) : (((L.set m a).set (m + 1) b).set (m + 2) c).take (m + 3) = L.take m ++ [a, b, c] := by
  obtain ⟨P, R, hL, hP⟩ : ∃ P R, L = P ++ R ∧ P.length = m := ⟨L.take m, L.drop m, (List.take_append_drop m L).symm, by rw [List.length_take]; omega⟩
  subst hL hP
  match R, h with
  | x :: y :: z :: r, _ =>
    have e1 : P.length + 1 - P.length = 1 := by omega
    have e2 : P.length + 2 - P.length = 2 := by omega
    have e3 : P.length + 3 - P.length = 3 := by omega
    rw [List.set_append_right _ _ (Nat.le_refl _), List.set_append_right _ _ (Nat.le_succ _), List.set_append_right _ _ (by omega), Nat.sub_self, e1, e2, List.take_append, List.take_append, e3, Nat.sub_self, List.take_of_length_le (by omega), List.take_of_length_le (Nat.le_refl _)]
    simp
  | [], h => exact absurd h (by simp)
  | [_], h => exact absurd h (by simp)
  | [_, _], h => exact absurd h (by simp)
/-- An array of n values whose first are these. -/
def ArrV (w : World) (k n : Nat) (l : List Vl) : Prop := ∃ cur, w.heap[k]? = some (.cells cur 184 (0, 0)) ∧ cur.size = n * 3 ∧ cur.toList.take (l.length * 3) = vlCells l
theorem vlCells_snoc (l : List Vl) (v : Vl) : vlCells (l ++ [v]) = vlCells l ++ [.int .i64 (v.kind : Int), .int .i64 v.num, .string (bytesL v.word)] := by simp [vlCells]
theorem ArrV.put {w : World} {k n : Nat} {l : List Vl} (h : ArrV w k n l) (hl : l.length < n) (v : Vl) :
    ArrV (((w.setCell ⟨k, l.length * 3, none⟩ (.int .i64 (v.kind : Int))).setCell ⟨k, l.length * 3 + 1, none⟩ (.int .i64 v.num)).setCell ⟨k, l.length * 3 + 2, none⟩ (.string (bytesL v.word))) k n (l ++ [v]) := by
  obtain ⟨cur, h1, h2, h3⟩ := h
  refine ⟨((cur.setIfInBounds (l.length * 3) (.int .i64 (v.kind : Int))).setIfInBounds (l.length * 3 + 1) (.int .i64 v.num)).setIfInBounds (l.length * 3 + 2) (.string (bytesL v.word)), ?_, ?_, ?_⟩
  · simp [World.setCell, Array.getElem?_modify, h1]
  · simp only [Array.size_setIfInBounds]; exact h2
  · have e : (l ++ [v]).length * 3 = l.length * 3 + 3 := by simp; omega
    rw [e, Array.toList_setIfInBounds, Array.toList_setIfInBounds, Array.toList_setIfInBounds, take_set3 _ _ _ _ _ (by have hs : cur.toList.length = cur.size := Array.length_toList; omega), h3, vlCells_snoc]
theorem ArrV.row {w : World} {k n base : Nat} {l : List Vl} (h : ArrV w k n l) (hl : l.length = n) (hb : base ≤ k) (hn : n ≤ 2000000) : w.ownsRow base 184 3 (.slice (some ⟨k, 0, none⟩) n n) l.length (vlCells l) := by
  obtain ⟨cur, h1, h2, h3⟩ := h
  subst hl
  refine ⟨?_, .inr ⟨k, l.length, cur, rfl, hb, h1, Nat.le_refl _, by unfold maxLen; omega, h2, h3⟩⟩
  have hs : cur.toList.length = cur.size := Array.length_toList
  rw [← h3, List.length_take]; omega
theorem infoVal : (Tryz.prog.info? 184).map (fun i => (i.zero, i.size, i.bytes)) = some (some (.agg #[.int .i64 0, .int .i64 0, .string ⟨#[]⟩]), 3, 32) := by kernel_rfl
/-- Texts lie in a row. -/
def StrAt (w : World) (g : Nat) (vals : List ByteArray) : Prop := ∀ i (h : i < vals.length), w.cell? ⟨g, i, none⟩ = some (.string vals[i])
/-- What readValues answers. -/
def ValsPost (nc : Nat) (vals : List ByteArray) (w : World) (e : Ending) (w' : World) : Prop :=
  (match (if vals.length = nc then allOf Trib.valOf vals else none) with
   | none => e = .returned (.tuple #[.slice none 0 0, .bool false])
   | some l => ∃ k, w.heap.size ≤ k ∧ e = .returned (.tuple #[.slice (some ⟨k, 0, none⟩) l.length l.length, .bool true]) ∧ w'.ownsRow w.heap.size 184 3 (.slice (some ⟨k, 0, none⟩) l.length l.length) l.length (vlCells l)) ∧ Below w.heap.size w w'
set_option maxHeartbeats 8000000 in
set_option maxRecDepth 100000 in
theorem readValues_any (b g cap nc ccap : Nat) (ca : Option Addr) (vals : List ByteArray) (w : World) (hc : w.cell? ⟨b, 1, none⟩ = some (.slice ca nc ccap)) (hv : StrAt w g vals) (hg : g < w.heap.size) (hl : vals.length ≤ 2000000) (hnc : nc ≤ 1000) (hs : ∀ t ∈ vals, t.size ≤ 2000000) :
    Calls Tryz.prog 123 #[.pointer (some ⟨b, 0, none⟩), .slice (some ⟨g, 0, none⟩) vals.length cap] w (ValsPost nc vals w) := by
  obtain ⟨i0, hi, hz0, hz1, hz2⟩ := info_parts infoVal
  have HV := hide hv
  have HS := hide hs
  clear hv hs
  by_cases hne : vals.length = nc
  · subst hne
    have hmk := run_make (P := Tryz.prog) w 176 184 i0 _ Tryz.underlying176 hi hz0 .i64 .i64 (vals.length : Int) (vals.length : Int) (by omega) (Int.le_refl _) (by rw [hz2]; omega) (by omega)
    rw [Int.toNat_natCast, hz1] at hmk
    have hZ := size_madeCells (Value.agg #[.int .i64 0, .int .i64 0, .string ⟨#[]⟩]).cells (vals.length * 3)
    generalize madeCells (Value.agg #[.int .i64 0, .int .i64 0, .string ⟨#[]⟩]).cells (vals.length * 3) = Z at *
    have HZ := hide hZ
    clear hZ
    have hnew := heap_alloc_new w (.cells Z 184)
    have hbw : Below w.heap.size w (w.alloc (.cells Z 184)) := (Below.refl _ _).alloc (Nat.le_refl _) _
    have z0 : Hid ((w.alloc (.cells Z 184)).heap.size = w.heap.size + 1) := hide (by simp)
    go_enter Tryz.func123, Tryz.ntmps123
    go_wp2_with fail
    generalize w.alloc (.cells Z 184) = W at *
    clear hmk
    go_loopg [24] (vals.length + 1) (fun q i wr => ∃ (j : Nat) (l : List Vl), j ≤ vals.length ∧ i = .int .i64 (j : Int) ∧ Hid (l.length = j ∧ allOf Trib.valOf (vals.take j) = some l) ∧ ArrV wr w.heap.size vals.length l ∧ Below w.heap.size w wr ∧ vals.length - j < q)
    case atStart => exact ⟨0, [], Nat.zero_le _, rfl, hide ⟨rfl, rfl⟩, ⟨Z, hnew, HZ.out, rfl⟩, hbw, by omega⟩
    case round =>
      obtain ⟨j, l, hj, rfl, hal, harr, hb, hq⟩ := hrel
      by_cases hlt : j < vals.length
      · have hlt' : (j : Int) < (vals.length : Int) := by omega
        have hpc : wr.cell? ⟨g, j, none⟩ = some (.string vals[j]) := (World.cell?_of_block (hb.block g hg)).trans (HV.out j hlt)
        have hsz := HS.out _ (List.getElem_mem hlt)
        have hsn : allOf Trib.valOf (vals.take (j + 1)) = (Trib.valOf vals[j]).bind fun y => some (l ++ [y]) := by
          rw [List.take_succ_eq_append_getElem hlt, allOf_snoc, hal.out.2]; rfl
        have HSN := hide hsn
        have HMEM := hide (List.getElem_mem hlt)
        have HRV := hide (valRead_any vals[j] wr hsz)
        have HQ := hide hq
        have HLJ := hide hal.out.1
        have hwr : IntKind.i64.wrap ((j : Int) + 1) = (j : Int) + 1 := by rw [IntKind.wrap_i64]; omega
        have zr := hb.size
        clear hsn hq hal
        have HVO : Hid (Trib.valOf vals[j] = if (valRes vals[j].data.toList).2 then some (valRes vals[j].data.toList).1 else none) := hide rfl
        generalize vals[j] = p at *
        generalize valRes p.data.toList = R at *
        obtain ⟨v, ok⟩ := R
        cases ok with
        | false =>
          have HNO : Hid (Trib.valOf p = none) := hide HVO.out
          clear HVO
          go_wp2_with (go_at_call 180; refine HRV.out.mono ?_; rintro e w2 ⟨rfl, hb2⟩; simp only [vlV])
          go_ret2
          refine ⟨?_, (hb.trans (hb2.mono zr)).alloc (by have := hb2.size; omega) _⟩
          rw [if_pos rfl, allOf_none Trib.valOf _ _ HMEM.out HNO.out]
          rfl
        | true =>
          have HYES : Hid (Trib.valOf p = some v) := hide HVO.out
          clear HVO
          go_upto_region 10 with (go_at_call 180; refine HRV.out.mono ?_; rintro e w2 ⟨rfl, hb2⟩; simp only [vlV])
          have hb3 : Below wr.heap.size wr (w2.alloc (.cells #[.int .i64 (v.kind : Int), .int .i64 v.num, .string (bytesL v.word)] 184)) := hb2.alloc (by have := hb2.size; omega) _
          have hloc := heap_alloc_new w2 (.cells #[.int .i64 (v.kind : Int), .int .i64 v.num, .string (bytesL v.word)] 184)
          have z2 := hb2.size
          generalize w2.alloc (.cells #[.int .i64 (v.kind : Int), .int .i64 v.num, .string (bytesL v.word)] 184) = W3 at *
          have hklt : w.heap.size < wr.heap.size := by obtain ⟨cur, h1, _⟩ := harr; exact (Array.getElem?_eq_some_iff.1 h1).1
          have harr3 : ArrV W3 w.heap.size vals.length l := by
            obtain ⟨cur, h1, h2⟩ := harr
            exact ⟨cur, (hb3.block _ hklt).trans h1, h2⟩
          have hput := harr3.put (by rw [HLJ.out]; exact hlt) v
          obtain rfl : l.length = j := HLJ.out
          have x0 : W3.cell? ⟨w2.heap.size, 0, none⟩ = some (.int .i64 (v.kind : Int)) := blk_cell hloc (i := 0) rfl
          have x1 : W3.cell? ⟨w2.heap.size, 1, none⟩ = some (.int .i64 v.num) := blk_cell hloc (i := 1) rfl
          have x2 : W3.cell? ⟨w2.heap.size, 2, none⟩ = some (.string (bytesL v.word)) := blk_cell hloc (i := 2) rfl
          obtain ⟨cur, k1, k2, k3⟩ := harr3
          have y0 : W3.cell? ⟨w.heap.size, l.length * 3, none⟩ = some (cur[l.length * 3]'(by omega)) := blk_cell k1 (Array.getElem?_eq_getElem _)
          have y1 : W3.cell? ⟨w.heap.size, l.length * 3 + 1, none⟩ = some (cur[l.length * 3 + 1]'(by omega)) := blk_cell k1 (Array.getElem?_eq_getElem _)
          have y2 : W3.cell? ⟨w.heap.size, l.length * 3 + 2, none⟩ = some (cur[l.length * 3 + 2]'(by omega)) := blk_cell k1 (Array.getElem?_eq_getElem _)
          have g0 : W3.frozen? ⟨w.heap.size, l.length * 3, none⟩ = false := blk_free k1
          have g1 : W3.frozen? ⟨w.heap.size, l.length * 3 + 1, none⟩ = false := blk_free k1
          have g2 : W3.frozen? ⟨w.heap.size, l.length * 3 + 2, none⟩ = false := blk_free k1
          generalize cur[l.length * 3]'(by omega) = q0 at *
          generalize cur[l.length * 3 + 1]'(by omega) = q1 at *
          generalize cur[l.length * 3 + 2]'(by omega) = q2 at *
          clear hpc k2 k3 HRV
          go_wp2_with fail
          have hq := HQ.out
          go_roundg (vals.length - l.length)
          case measure => omega
          case rel => exact ⟨l.length + 1, l ++ [v], by omega, by go_num, hide ⟨by simp, by rw [HSN.out, HYES.out]; rfl⟩, hput, (((hb.trans (hb3.mono zr)).setCell (Nat.le_refl _) _).setCell (Nat.le_refl _) _).setCell (Nat.le_refl _) _, by omega⟩
      · have hlt' : (vals.length : Int) ≤ (j : Int) := by omega
        have hjl : j = vals.length := by omega
        have HAL : Hid (allOf Trib.valOf vals = some l ∧ l.length = vals.length) := hide ⟨by rw [← hal.out.2, hjl, List.take_length], by rw [hal.out.1]; exact hjl⟩
        clear hq hal hjl
        go_wp2_with fail
        go_ret2
        refine ⟨?_, hb⟩
        rw [if_pos rfl, HAL.out.1]
        have hr := harr.row (base := w.heap.size) HAL.out.2 (Nat.le_refl _) hl
        rw [← HAL.out.2] at hr
        exact ⟨w.heap.size, Nat.le_refl _, by rw [HAL.out.2]; rfl, hr⟩
  · have hne' : ¬ (vals.length : Int) = (nc : Int) := by omega
    have HNE := hide hne
    clear hne
    go_enter Tryz.func123, Tryz.ntmps123
    go_wp2_with fail
    go_ret2
    refine ⟨?_, Below.refl _ _⟩
    rw [if_neg HNE.out]
    rfl
end Go.Proofs.YtbkeflgafjnefaaGreatDoor
namespace Go.Proofs.YtbkeflgafjnefaaGreatDoor
open Go.RowKit
open Trib
set_option maxHeartbeats 4000000 in
theorem tnew_any (s : ByteArray) (a : Option Addr) (n cap : Nat) (w : World) (hs : s.size ≤ 2000000) :
    Calls Tryz.prog 73 #[.string s, .slice a n cap] w fun e w' => ∃ k, w.heap.size ≤ k ∧ e = .returned (.pointer (some ⟨k, 0, none⟩)) ∧ w'.heap[k]? = some (.cells #[.string s, .slice a n cap, .slice none 0 0, .int .i64 0] 233 (0, 0)) ∧ Below w.heap.size w w' := by
  go_enter Tryz.func73, Tryz.ntmps73
  go_wp2_with (go_at_call 77; refine (clone_any s w hs).mono ?_; rintro e w2 ⟨rfl, hb2⟩)
  go_ret
  exact ⟨w2.heap.size, hb2.size, rfl, heap_alloc_new w2 _, hb2.alloc hb2.size _⟩
end Go.Proofs.YtbkeflgafjnefaaGreatDoor
