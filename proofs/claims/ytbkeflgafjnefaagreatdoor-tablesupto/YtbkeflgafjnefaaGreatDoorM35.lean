/- Towards the law of tables: R23, PrintParts, R24. -/
import Derived.Test.YtbkeflgafjnefaaGreatDoorM34
import Derived.Deep.DeepCutAuto
import Derived.Deep.CutBlock
namespace Go.Proofs.YtbkeflgafjnefaaGreatDoor
open Go.RowKit
open Trib

def ReadPost (s : ByteArray) (w : World) (e : Ending) (w' : World) : Prop := ∃ (x : Int) (y : Option Addr), e = .returned (.tuple #[.agg #[.int .i64 x, .pointer y], .int .i64 (readErr s : Int)]) ∧ Below w.heap.size w w'
/-- What reading the query's part of a text comes to. -/
def bodyP (r : List Nat) : Nat := match R (8 * r.length + 8) 2 r 1 with | some ([], m) => if m > 6 then 2 else 0 | _ => 1
/-- The Scan, the policy that is being made and the result's place, behind what came ahead of w. -/
structure RInv (w : World) (c : Nat) (v : Value) (ts : List ByteArray) (p : Int) (bad : Bool) (dp : Int) (x : Int) (y : Option Addr) (wr : World) : Prop where
  sc : ScanIs wr c v p bad dp
  row : RowIs wr c v ts
  res : wr.heap[w.heap.size]? = some (.cells #[.int .i64 0, .pointer none] 222 (0, 0))
  pol : wr.heap[c + 1]? = some (.cells #[.int .i64 x, .pointer y] 222 (0, 0))
  bel : Below w.heap.size w wr
  lt : w.heap.size < c
theorem RInv.step {w : World} {c : Nat} {v : Value} {ts : List ByteArray} {p p' : Int} {bad bad' : Bool} {dp dp' x : Int} {y : Option Addr} {wr w' : World} (h : RInv w c v ts p bad dp x y wr) (ha : After wr c v p' bad' dp' w') : RInv w c v ts p' bad' dp' x y w' :=
  ⟨ha.1, h.row.kept ha.2, (ha.2.block _ (lt_of_block h.res) (by have := h.lt; simp; omega)).trans h.res, (ha.2.block _ (lt_of_block h.pol) (by simp)).trans h.pol, h.bel.grown ha.2 h.bel.size (fun k hk => by have := h.lt; obtain rfl := Option.some.inj hk; omega), h.lt⟩
theorem RInv.polCells {w : World} {c : Nat} {v : Value} {ts : List ByteArray} {p : Int} {bad : Bool} {dp x : Int} {y : Option Addr} {wr : World} (h : RInv w c v ts p bad dp x y wr) : wr.cell? ⟨c + 1, 0, none⟩ = some (.int .i64 x) ∧ wr.cell? ⟨c + 1, 1, none⟩ = some (.pointer y) ∧ (∀ i, wr.frozen? ⟨c + 1, i, none⟩ = false) :=
  ⟨cell_of_block h.pol rfl, cell_of_block h.pol rfl, fun _ => free_of_block h.pol⟩
theorem RInv.resCells {w : World} {c : Nat} {v : Value} {ts : List ByteArray} {p : Int} {bad : Bool} {dp x : Int} {y : Option Addr} {wr : World} (h : RInv w c v ts p bad dp x y wr) : wr.cell? ⟨w.heap.size, 0, none⟩ = some (.int .i64 0) ∧ wr.cell? ⟨w.heap.size, 1, none⟩ = some (.pointer none) ∧ (∀ i, wr.frozen? ⟨w.heap.size, i, none⟩ = false) :=
  ⟨cell_of_block h.res rfl, cell_of_block h.res rfl, fun _ => free_of_block h.res⟩
theorem RInv.lts {w : World} {c : Nat} {v : Value} {ts : List ByteArray} {p : Int} {bad : Bool} {dp x : Int} {y : Option Addr} {wr : World} (h : RInv w c v ts p bad dp x y wr) : w.heap.size < c ∧ c + 1 < wr.heap.size := ⟨h.lt, lt_of_block h.pol⟩

theorem RInv.setPol {w : World} {c : Nat} {v : Value} {ts : List ByteArray} {p : Int} {bad : Bool} {dp x : Int} {y : Option Addr} {wr : World} (h : RInv w c v ts p bad dp x y wr) (x' : Int) : RInv w c v ts p bad dp x' y (wr.setCell ⟨c + 1, 0, none⟩ (.int .i64 x')) := by
  have hlt := h.lt
  refine ⟨(Below.heap_setCell _ _ _ c (by show c ≠ c + 1; omega)).trans h.sc, ?_, (Below.heap_setCell _ _ _ _ (by show w.heap.size ≠ c + 1; omega)).trans h.res, heap_setCell h.pol _, h.bel.setCell (by show w.heap.size ≤ c + 1; omega) _, hlt⟩
  rcases h.row with h1 | ⟨g, cap, cur, h1, h2, h3, h4, h5⟩
  · exact Or.inl h1
  · have hne : g ≠ c + 1 := by
      rintro rfl
      have := h4.symm.trans h.pol
      simp at this
    exact Or.inr ⟨g, cap, cur, h1, h2, by show g < (wr.heap.modify _ _).size; rw [Array.size_modify]; exact h3, (Below.heap_setCell _ _ _ g (by show g ≠ c + 1; exact hne)).trans h4, h5⟩
theorem RInv.setAt {w : World} {c : Nat} {v : Value} {ts : List ByteArray} {p : Int} {bad : Bool} {dp x : Int} {y : Option Addr} {wr : World} (h : RInv w c v ts p bad dp x y wr) (p' : Int) : RInv w c v ts p' bad dp x y (wr.setCell ⟨c, 1, none⟩ (.int .i64 p')) := h.step ⟨h.sc.set1 p', grownBy_set _ _ _ _⟩
theorem RInv.setBad {w : World} {c : Nat} {v : Value} {ts : List ByteArray} {p : Int} {bad : Bool} {dp x : Int} {y : Option Addr} {wr : World} (h : RInv w c v ts p bad dp x y wr) (b' : Bool) : RInv w c v ts p b' dp x y (wr.setCell ⟨c, 2, none⟩ (.bool b')) := h.step ⟨h.sc.set2 b', grownBy_set _ _ _ _⟩
theorem kds_cons {ts : List ByteArray} {p k : Nat} (h : kAt ts p = k) (hl : p < ts.length) : Kds ts p = k :: Kds ts (p + 1) := by rw [Kds_lt hl, ← kAt_tok, h]
theorem bodyP_bad {k : Nat} {r : List Nat} (h : k ≠ 14) : bodyP (k :: r) = 1 := by
  have : R (8 * (k :: r).length + 8) 2 (k :: r) 1 = none := by
    rw [R]
    have : must 14 (k :: r) = none := by simp [must, h]
    rw [this]; rfl
  rw [bodyP, this]
theorem readP_ever {ts : List ByteArray} (h32 : kAt ts 0 = 32) (hl : 0 < ts.length) : readP (Kds ts 0) = bodyP (Kds ts 1) := by
  rw [kds_cons h32 hl]; rfl
theorem readP_both {ts : List ByteArray} (h32 : kAt ts 0 = 32) (h31 : kAt ts 1 = 31) (hl : 0 < ts.length) (hl2 : 1 < ts.length) : readP (Kds ts 0) = 1 := by
  rw [readP_ever h32 hl, kds_cons h31 hl2, bodyP_bad (by decide)]
theorem readP_plain {ts : List ByteArray} (h32 : kAt ts 0 ≠ 32) (h31 : kAt ts 0 ≠ 31) : readP (Kds ts 0) = bodyP (Kds ts 0) := by
  unfold readP bodyP
  unfold kAt at h32 h31
  match Kds ts 0, h32, h31 with
  | [], _, _ => rfl
  | k :: r, h32, h31 =>
    simp only [List.headD_cons] at h32 h31
    split
    · rename_i heq; cases heq; exact absurd rfl h32
    · rename_i heq; cases heq; exact absurd rfl h31
    · rfl
set_option maxHeartbeats 4000000 in
theorem Read_any (s : ByteArray) (w : World) (hs : s.size ≤ maxLen) : Calls Tryz.prog 163 #[.string s] w (ReadPost s w) := by
  unfold maxLen at hs
  by_cases h400 : 400 < s.size
  · have hE : Hid (readErr s = 1) := hide (by rw [readErr, if_pos h400])
    go_enter Tryz.func163, Tryz.ntmps163
    go_wp2_with fail
    refine bodyPost_ret (v := .tuple #[.agg #[.int .i64 0, .pointer none], .int .i64 1]) (by simp [results, Tryz.results163, go_sem]) rfl ⟨0, none, by rw [hE.out]; rfl, (Below.refl _ _).alloc (Nat.le_refl _) _⟩
  · go_enter Tryz.func163, Tryz.ntmps163
    go_wp2_with fail
    refine (Tokens_any s _ (by omega)).mono ?_
    rintro e w1 (⟨v, ts, htk, htl, rfl, hown, hbel⟩ | ⟨htk, rfl, hbel⟩)
    · have hsm := small_of_tokens (by omega) htl htk
      have HE0 : Hid (readErr s = readP (Kds ts 0)) := hide (by
        rw [readErr, if_neg h400, htk, Kds, List.drop_zero]
        show readP (List.map kindOf (List.map (fun x => x.data.toList) ts)) = _
        rw [List.map_map]; rfl)
      have hs1 := hsm.1
      have hrow0 := row_of_owns hown rfl (.cells #[v, .int .i64 0, .bool false, .int .i64 0] 374)
      have hlt1 : w.heap.size < w1.heap.size := by have := hbel.size; simp at this; omega
      have hres1 : w1.heap[w.heap.size]? = some (.cells #[.int .i64 0, .pointer none] 222 (0, 0)) := (hbel.block _ (by simp)).trans (heap_alloc_new _ _)
      have hbel1 : Below w.heap.size w w1 := ((Below.refl _ _).alloc (Nat.le_refl _) _).trans (hbel.mono (by simp))
      have HR0 : RInv w w1.heap.size v ts (0 : Nat) false 0 (-2) none ((w1.alloc (.cells #[v, .int .i64 0, .bool false, .int .i64 0] 374)).alloc (.cells #[.int .i64 (-2), .pointer none] 222)) := by
        refine ⟨(Below.heap_alloc _ _ _ (by simp)).trans (heap_alloc_new _ _), hrow0.kept (World.grownBy_alloc _ _ _), ?_, ?_, (hbel1.alloc hbel1.size _).alloc (by simp; have := hbel1.size; omega) _, hlt1⟩
        · exact (Below.heap_alloc _ _ _ (by simp; omega)).trans ((Below.heap_alloc _ _ _ hlt1).trans hres1)
        · have := heap_alloc_new (w1.alloc (.cells #[v, .int .i64 0, .bool false, .int .i64 0] 374)) (.cells #[.int .i64 (-2), .pointer none] 222)
          simpa using this
      obtain ⟨a, cap, rfl⟩ := hrow0.len
      clear htk hown hbel hrow0 hres1 hbel1
      have hFit : Fit ts 1000 (0 : Nat) false := ⟨by omega, by omega, fun _ => by omega, by omega, by omega⟩
      go_wp2_with fail
      generalize w1.heap.size = c at *
      by_cases k32 : kAt ts 0 = 32
      · refine (is_yes c _ ts (0 : Nat) _ _ _ HR0.sc HR0.row (by omega) (by omega) (by omega) (next_yes (by decide) (by decide) (by decide) k32)).mono ?_
        rintro e w2 ⟨rfl, ha2⟩
        have HR2 : RInv w c (.slice a ts.length cap) ts (1 : Nat) false 0 (-2) none w2 := HR0.step ha2
        have hl1 : 0 < ts.length := kAt_lt (by omega)
        go_wp2_with fail
        by_cases k31 : kAt ts 1 = 31
        · have hl2 : 1 < ts.length := kAt_lt (by omega)
          have hE2 : Hid (readErr s = 1) := hide (by rw [HE0.out]; exact readP_both k32 k31 hl1 hl2)
          refine (is_yes c _ ts (1 : Nat) _ _ _ HR2.sc HR2.row (by omega) (by omega) (by omega) (next_yes (by decide) (by decide) (by decide) k31)).mono ?_
          rintro e w3 ⟨rfl, ha3⟩
          have HR3 : RInv w c (.slice a ts.length cap) ts (2 : Nat) false 0 (-2) none w3 := HR2.step ha3
          have HR3s := HR3.setPol (-1)
          obtain ⟨q0, q1, f0⟩ := HR3.polCells
          clear k31 k32 HE0 HR0 HR2 ha2 ha3
          go_wp2_with fail
          refine (look_any c _ ts (2 : Nat) false _ _ HR3s.sc HR3s.row (by omega) (by omega)).mono ?_
          rintro e w4 ⟨rfl, ha4⟩
          have HR4 := HR3s.step ha4
          have hsz := hsm.tok (2 : Nat)
          generalize tokAt ts (2 : Nat) = s2 at *
          go_wp2_with fail
          refine (number_any s2 _ hsz).mono ?_
          rintro e w5 ⟨rfl, rfl⟩
          generalize (numRes s2.data.toList).1 = nn at *
          generalize (numRes s2.data.toList).2 = nb at *
          obtain ⟨c0, c1, c2, c3⟩ := HR4.sc.cells
          have hf1 := HR4.sc.free 1
          have hf2 := HR4.sc.free 2
          clear q0 q1 f0
          obtain ⟨q0, q1, f0⟩ := HR4.polCells
          have hz := HR4.lts
          cases nb
          · by_cases hnn : nn < 0
            · have HRn := (((HR4.setAt 3).setBad true).setPol nn).setPol (-3)
              go_wp2_with fail
              clear c0 c1 c2 c3 hf1 hf2 q0 q1 f0 hz
              refine (query_bad c _ ts 3 _ 1 _ HRn.sc HRn.row (by omega) (by omega) hsm).mono ?_
              rintro e wq ⟨⟨xq, rfl⟩, ha5⟩
              have HR5 := HRn.step ha5
              obtain ⟨c0, c1, c2, c3⟩ := HR5.sc.cells
              obtain ⟨q0, q1, f0⟩ := HR5.polCells
              obtain ⟨r0, r1, g0⟩ := HR5.resCells
              have hz := HR5.lts
              go_wp2_with fail
              refine bodyPost_ret (v := .tuple #[.agg #[.int .i64 0, .pointer none], .int .i64 1]) (by simp [results, Tryz.results163, go_sem, *]) rfl ⟨0, none, by rw [hE2.out]; rfl, ?_⟩
              exact ((HR5.bel.setCell (by show w.heap.size ≤ c + 1; omega) _).setCell (Nat.le_refl _) _).setCell (Nat.le_refl _) _
            · have HRn := ((HR4.setAt 3).setBad true).setPol nn
              go_wp2_with fail
              clear c0 c1 c2 c3 hf1 hf2 q0 q1 f0 hz
              refine (query_bad c _ ts 3 _ 1 _ HRn.sc HRn.row (by omega) (by omega) hsm).mono ?_
              rintro e wq ⟨⟨xq, rfl⟩, ha5⟩
              have HR5 := HRn.step ha5
              obtain ⟨c0, c1, c2, c3⟩ := HR5.sc.cells
              obtain ⟨q0, q1, f0⟩ := HR5.polCells
              obtain ⟨r0, r1, g0⟩ := HR5.resCells
              have hz := HR5.lts
              go_wp2_with fail
              refine bodyPost_ret (v := .tuple #[.agg #[.int .i64 0, .pointer none], .int .i64 1]) (by simp [results, Tryz.results163, go_sem, *]) rfl ⟨0, none, by rw [hE2.out]; rfl, ?_⟩
              exact ((HR5.bel.setCell (by show w.heap.size ≤ c + 1; omega) _).setCell (Nat.le_refl _) _).setCell (Nat.le_refl _) _
          · by_cases hnn : nn < 0
            · have HRn := (((HR4.setAt 3).setBad true).setPol nn).setPol (-3)
              go_wp2_with fail
              clear c0 c1 c2 c3 hf1 hf2 q0 q1 f0 hz
              refine (query_bad c _ ts 3 _ 1 _ HRn.sc HRn.row (by omega) (by omega) hsm).mono ?_
              rintro e wq ⟨⟨xq, rfl⟩, ha5⟩
              have HR5 := HRn.step ha5
              obtain ⟨c0, c1, c2, c3⟩ := HR5.sc.cells
              obtain ⟨q0, q1, f0⟩ := HR5.polCells
              obtain ⟨r0, r1, g0⟩ := HR5.resCells
              have hz := HR5.lts
              go_wp2_with fail
              refine bodyPost_ret (v := .tuple #[.agg #[.int .i64 0, .pointer none], .int .i64 1]) (by simp [results, Tryz.results163, go_sem, *]) rfl ⟨0, none, by rw [hE2.out]; rfl, ?_⟩
              exact ((HR5.bel.setCell (by show w.heap.size ≤ c + 1; omega) _).setCell (Nat.le_refl _) _).setCell (Nat.le_refl _) _
            · have HRn := ((HR4.setAt 3).setBad true).setPol nn
              go_wp2_with fail
              clear c0 c1 c2 c3 hf1 hf2 q0 q1 f0 hz
              refine (query_bad c _ ts 3 _ 1 _ HRn.sc HRn.row (by omega) (by omega) hsm).mono ?_
              rintro e wq ⟨⟨xq, rfl⟩, ha5⟩
              have HR5 := HRn.step ha5
              obtain ⟨c0, c1, c2, c3⟩ := HR5.sc.cells
              obtain ⟨q0, q1, f0⟩ := HR5.polCells
              obtain ⟨r0, r1, g0⟩ := HR5.resCells
              have hz := HR5.lts
              go_wp2_with fail
              refine bodyPost_ret (v := .tuple #[.agg #[.int .i64 0, .pointer none], .int .i64 1]) (by simp [results, Tryz.results163, go_sem, *]) rfl ⟨0, none, by rw [hE2.out]; rfl, ?_⟩
              exact ((HR5.bel.setCell (by show w.heap.size ≤ c + 1; omega) _).setCell (Nat.le_refl _) _).setCell (Nat.le_refl _) _
        · have HE : Hid (readErr s = bodyP (Kds ts 1)) := hide (by rw [HE0.out]; exact readP_ever k32 hl1)
          refine (is_no c _ ts (1 : Nat) _ _ _ HR2.sc HR2.row (by omega) (by omega) (by omega) (next_no (by decide) (by decide) (by decide) k31)).mono ?_
          rintro e w3 ⟨rfl, ha3⟩
          have HR3 := HR2.step ha3
          obtain ⟨q0, q1, f0⟩ := HR3.polCells
          have HRn := HR3.setPol (-1)
          clear k31 k32 HE0 HR0 HR2 ha2 ha3
          go_wp2_with fail
          clear q0 q1 f0
          refine ((all_ok (8 * (Kds ts 1).length + 8)).2 c _ ts 1 0 1 _ HRn.sc HRn.row (by omega) hsm (by omega) (by rw [Kds_len]; omega) (by rw [Kds_len]; omega) (by omega)).mono ?_
          rintro e wq ⟨⟨xq, rfl⟩, hoq⟩
          generalize hrq : R (8 * (Kds ts 1).length + 8) 2 (Kds ts 1) 1 = rq at hoq
          have HRQ := hide hrq
          clear hrq
          match rq, hoq with
          | none, ⟨p4, d4, h04, h14, ha4⟩ =>
            have HR4 := HRn.step ha4
            have hE2 : Hid (readErr s = 1) := hide (by rw [HE.out, bodyP, HRQ.out])
            obtain ⟨c0, c1, c2, c3⟩ := HR4.sc.cells
            obtain ⟨q0, q1, f0⟩ := HR4.polCells
            obtain ⟨r0, r1, g0⟩ := HR4.resCells
            have hz := HR4.lts
            go_wp2_with fail
            refine bodyPost_ret (v := .tuple #[.agg #[.int .i64 0, .pointer none], .int .i64 1]) (by simp [results, Tryz.results163, go_sem, *]) rfl ⟨0, none, by rw [hE2.out]; rfl, ?_⟩
            exact ((HR4.bel.setCell (by show w.heap.size ≤ c + 1; omega) _).setCell (Nat.le_refl _) _).setCell (Nat.le_refl _) _
          | some (ks4, m4), ⟨p4, hk4, hge4, hp4, ha4⟩ =>
            subst hk4
            have HR4 := HRn.step ha4
            obtain ⟨c0, c1, c2, c3⟩ := HR4.sc.cells
            obtain ⟨q0, q1, f0⟩ := HR4.polCells
            obtain ⟨r0, r1, g0⟩ := HR4.resCells
            have hz := HR4.lts
            by_cases hend : p4 = ts.length
            · have hk0 : Kds ts p4 = [] := Kds_ge (by omega)
              have hne : ((p4 : Int) != (ts.length : Int)) = false := by simp [hend]
              by_cases hdeep : 6 < max 0 m4
              · have hE2 : Hid (readErr s = 2) := hide (by rw [HE.out, bodyP, HRQ.out, hk0]; exact if_pos (by omega))
                go_wp2_with fail
                refine bodyPost_ret (v := .tuple #[.agg #[.int .i64 0, .pointer none], .int .i64 2]) (by simp [results, Tryz.results163, go_sem, *]) rfl ⟨0, none, by rw [hE2.out]; rfl, ?_⟩
                exact ((HR4.bel.setCell (by show w.heap.size ≤ c + 1; omega) _).setCell (Nat.le_refl _) _).setCell (Nat.le_refl _) _
              · have hE2 : Hid (readErr s = 0) := hide (by rw [HE.out, bodyP, HRQ.out, hk0]; exact if_neg (by omega))
                go_wp2_with fail
                refine bodyPost_ret (v := .tuple #[.agg #[.int .i64 (-1), .pointer (some xq)], .int .i64 0]) (by simp [results, Tryz.results163, go_sem, *]) rfl ⟨(-1), (some xq), by rw [hE2.out]; rfl, ?_⟩
                exact ((HR4.bel.setCell (by show w.heap.size ≤ c + 1; omega) _).setCell (Nat.le_refl _) _).setCell (Nat.le_refl _) _
            · have hne : ((p4 : Int) != (ts.length : Int)) = true := by simp; omega
              have hE2 : Hid (readErr s = 1) := hide (by
                rw [HE.out, bodyP, HRQ.out, Kds_lt (by omega)])
              go_wp2_with fail
              refine bodyPost_ret (v := .tuple #[.agg #[.int .i64 0, .pointer none], .int .i64 1]) (by simp [results, Tryz.results163, go_sem, *]) rfl ⟨0, none, by rw [hE2.out]; rfl, ?_⟩
              exact ((HR4.bel.setCell (by show w.heap.size ≤ c + 1; omega) _).setCell (Nat.le_refl _) _).setCell (Nat.le_refl _) _
      · refine (is_no c _ ts (0 : Nat) _ _ _ HR0.sc HR0.row (by omega) (by omega) (by omega) (next_no (by decide) (by decide) (by decide) k32)).mono ?_
        rintro e w2 ⟨rfl, ha2⟩
        have HR2 := HR0.step ha2
        go_wp2_with fail
        by_cases k31 : kAt ts 0 = 31
        · have hl1 : 0 < ts.length := kAt_lt (by omega)
          refine (is_yes c _ ts (0 : Nat) _ _ _ HR2.sc HR2.row (by omega) (by omega) (by omega) (next_yes (by decide) (by decide) (by decide) k31)).mono ?_
          rintro e w3 ⟨rfl, ha3⟩
          have HR3 : RInv w c (.slice a ts.length cap) ts (1 : Nat) false 0 (-2) none w3 := HR2.step ha3
          go_wp2_with fail
          refine (look_any c _ ts (1 : Nat) false _ _ HR3.sc HR3.row (by omega) (by omega)).mono ?_
          rintro e w4 ⟨rfl, ha4⟩
          have HR4 := HR3.step ha4
          have hsz := hsm.tok (1 : Nat)
          obtain ⟨k1, hk1⟩ : ∃ k, kAt ts 1 = k := ⟨_, rfl⟩
          have hK1 : KindIs (tokAt ts (1 : Nat)) k1 := (kAt_tok ts 1).symm.trans hk1
          have HK1 := hide hk1
          have HK31 := hide k31
          have HN := hide (fun w => number_kind hK1 hsz w)
          clear k31 k32 HR0 HR2 ha2 ha3 hk1 ha4 HR3
          generalize tokAt ts (1 : Nat) = s2 at *
          go_wp2_with fail
          refine (HN.out _).mono ?_
          rintro e w5 ⟨nn, rfl, rfl⟩
          obtain ⟨c0, c1, c2, c3⟩ := HR4.sc.cells
          have hf1 := HR4.sc.free 1
          have hf2 := HR4.sc.free 2
          obtain ⟨q0, q1, f0⟩ := HR4.polCells
          have hz := HR4.lts
          by_cases hk2 : k1 = 2
          · subst hk2
            have hl2 : 1 < ts.length := kAt_lt (by rw [HK1.out]; decide)
            have HE : Hid (readErr s = bodyP (Kds ts 2)) := hide (by rw [HE0.out, kds_cons HK31.out hl1, kds_cons HK1.out hl2]; rfl)
            clear HE0
            by_cases hnn : nn < 0
            · have HRn := (((HR4.setAt 2).setBad false).setPol nn).setPol (-3)
              go_wp2_with fail
              clear c0 c1 c2 c3 hf1 hf2 q0 q1 f0 hz
              refine ((all_ok (8 * (Kds ts 2).length + 8)).2 c _ ts 2 0 1 _ HRn.sc HRn.row (by omega) hsm (by omega) (by rw [Kds_len]; omega) (by rw [Kds_len]; omega) (by omega)).mono ?_
              rintro e wq ⟨⟨xq, rfl⟩, hoq⟩
              generalize hrq : R (8 * (Kds ts 2).length + 8) 2 (Kds ts 2) 1 = rq at hoq
              have HRQ := hide hrq
              clear hrq
              match rq, hoq with
              | none, ⟨p4, d4, h04, h14, ha5⟩ =>
                have HR5 := HRn.step ha5
                have hE2 : Hid (readErr s = 1) := hide (by rw [HE.out, bodyP, HRQ.out])
                obtain ⟨c0, c1, c2, c3⟩ := HR5.sc.cells
                obtain ⟨q0, q1, f0⟩ := HR5.polCells
                obtain ⟨r0, r1, g0⟩ := HR5.resCells
                have hz := HR5.lts
                go_wp2_with fail
                refine bodyPost_ret (v := .tuple #[.agg #[.int .i64 0, .pointer none], .int .i64 1]) (by simp [results, Tryz.results163, go_sem, *]) rfl ⟨0, none, by rw [hE2.out]; rfl, ?_⟩
                exact ((HR5.bel.setCell (by show w.heap.size ≤ c + 1; omega) _).setCell (Nat.le_refl _) _).setCell (Nat.le_refl _) _
              | some (ks4, m4), ⟨p4, hk4, hge4, hp4, ha5⟩ =>
                subst hk4
                have HR5 := HRn.step ha5
                obtain ⟨c0, c1, c2, c3⟩ := HR5.sc.cells
                obtain ⟨q0, q1, f0⟩ := HR5.polCells
                obtain ⟨r0, r1, g0⟩ := HR5.resCells
                have hz := HR5.lts
                by_cases hend : p4 = ts.length
                · have hk0 : Kds ts p4 = [] := Kds_ge (by omega)
                  have hne : ((p4 : Int) != (ts.length : Int)) = false := by simp [hend]
                  by_cases hdeep : 6 < max 0 m4
                  · have hE2 : Hid (readErr s = 2) := hide (by rw [HE.out, bodyP, HRQ.out, hk0]; exact if_pos (by omega))
                    go_wp2_with fail
                    refine bodyPost_ret (v := .tuple #[.agg #[.int .i64 0, .pointer none], .int .i64 2]) (by simp [results, Tryz.results163, go_sem, *]) rfl ⟨0, none, by rw [hE2.out]; rfl, ?_⟩
                    exact ((HR5.bel.setCell (by show w.heap.size ≤ c + 1; omega) _).setCell (Nat.le_refl _) _).setCell (Nat.le_refl _) _
                  · have hE2 : Hid (readErr s = 0) := hide (by rw [HE.out, bodyP, HRQ.out, hk0]; exact if_neg (by omega))
                    go_wp2_with fail
                    refine bodyPost_ret (v := .tuple #[.agg #[.int .i64 (-3), .pointer (some xq)], .int .i64 0]) (by simp [results, Tryz.results163, go_sem, *]) rfl ⟨(-3), (some xq), by rw [hE2.out]; rfl, ?_⟩
                    exact ((HR5.bel.setCell (by show w.heap.size ≤ c + 1; omega) _).setCell (Nat.le_refl _) _).setCell (Nat.le_refl _) _
                · have hne : ((p4 : Int) != (ts.length : Int)) = true := by simp; omega
                  have hE2 : Hid (readErr s = 1) := hide (by
                    rw [HE.out, bodyP, HRQ.out, Kds_lt (by omega)])
                  go_wp2_with fail
                  refine bodyPost_ret (v := .tuple #[.agg #[.int .i64 0, .pointer none], .int .i64 1]) (by simp [results, Tryz.results163, go_sem, *]) rfl ⟨0, none, by rw [hE2.out]; rfl, ?_⟩
                  exact ((HR5.bel.setCell (by show w.heap.size ≤ c + 1; omega) _).setCell (Nat.le_refl _) _).setCell (Nat.le_refl _) _
            · have HRn := ((HR4.setAt 2).setBad false).setPol nn
              go_wp2_with fail
              clear c0 c1 c2 c3 hf1 hf2 q0 q1 f0 hz
              refine ((all_ok (8 * (Kds ts 2).length + 8)).2 c _ ts 2 0 1 _ HRn.sc HRn.row (by omega) hsm (by omega) (by rw [Kds_len]; omega) (by rw [Kds_len]; omega) (by omega)).mono ?_
              rintro e wq ⟨⟨xq, rfl⟩, hoq⟩
              generalize hrq : R (8 * (Kds ts 2).length + 8) 2 (Kds ts 2) 1 = rq at hoq
              have HRQ := hide hrq
              clear hrq
              match rq, hoq with
              | none, ⟨p4, d4, h04, h14, ha5⟩ =>
                have HR5 := HRn.step ha5
                have hE2 : Hid (readErr s = 1) := hide (by rw [HE.out, bodyP, HRQ.out])
                obtain ⟨c0, c1, c2, c3⟩ := HR5.sc.cells
                obtain ⟨q0, q1, f0⟩ := HR5.polCells
                obtain ⟨r0, r1, g0⟩ := HR5.resCells
                have hz := HR5.lts
                go_wp2_with fail
                refine bodyPost_ret (v := .tuple #[.agg #[.int .i64 0, .pointer none], .int .i64 1]) (by simp [results, Tryz.results163, go_sem, *]) rfl ⟨0, none, by rw [hE2.out]; rfl, ?_⟩
                exact ((HR5.bel.setCell (by show w.heap.size ≤ c + 1; omega) _).setCell (Nat.le_refl _) _).setCell (Nat.le_refl _) _
              | some (ks4, m4), ⟨p4, hk4, hge4, hp4, ha5⟩ =>
                subst hk4
                have HR5 := HRn.step ha5
                obtain ⟨c0, c1, c2, c3⟩ := HR5.sc.cells
                obtain ⟨q0, q1, f0⟩ := HR5.polCells
                obtain ⟨r0, r1, g0⟩ := HR5.resCells
                have hz := HR5.lts
                by_cases hend : p4 = ts.length
                · have hk0 : Kds ts p4 = [] := Kds_ge (by omega)
                  have hne : ((p4 : Int) != (ts.length : Int)) = false := by simp [hend]
                  by_cases hdeep : 6 < max 0 m4
                  · have hE2 : Hid (readErr s = 2) := hide (by rw [HE.out, bodyP, HRQ.out, hk0]; exact if_pos (by omega))
                    go_wp2_with fail
                    refine bodyPost_ret (v := .tuple #[.agg #[.int .i64 0, .pointer none], .int .i64 2]) (by simp [results, Tryz.results163, go_sem, *]) rfl ⟨0, none, by rw [hE2.out]; rfl, ?_⟩
                    exact ((HR5.bel.setCell (by show w.heap.size ≤ c + 1; omega) _).setCell (Nat.le_refl _) _).setCell (Nat.le_refl _) _
                  · have hE2 : Hid (readErr s = 0) := hide (by rw [HE.out, bodyP, HRQ.out, hk0]; exact if_neg (by omega))
                    go_wp2_with fail
                    refine bodyPost_ret (v := .tuple #[.agg #[.int .i64 nn, .pointer (some xq)], .int .i64 0]) (by simp [results, Tryz.results163, go_sem, *]) rfl ⟨nn, (some xq), by rw [hE2.out]; rfl, ?_⟩
                    exact ((HR5.bel.setCell (by show w.heap.size ≤ c + 1; omega) _).setCell (Nat.le_refl _) _).setCell (Nat.le_refl _) _
                · have hne : ((p4 : Int) != (ts.length : Int)) = true := by simp; omega
                  have hE2 : Hid (readErr s = 1) := hide (by
                    rw [HE.out, bodyP, HRQ.out, Kds_lt (by omega)])
                  go_wp2_with fail
                  refine bodyPost_ret (v := .tuple #[.agg #[.int .i64 0, .pointer none], .int .i64 1]) (by simp [results, Tryz.results163, go_sem, *]) rfl ⟨0, none, by rw [hE2.out]; rfl, ?_⟩
                  exact ((HR5.bel.setCell (by show w.heap.size ≤ c + 1; omega) _).setCell (Nat.le_refl _) _).setCell (Nat.le_refl _) _
          · have hdec : decide (k1 = 2) = false := by simpa using hk2
            have hE2 : Hid (readErr s = 1) := hide (by
              rw [HE0.out, kds_cons HK31.out hl1]
              have hb : bodyP (31 :: Kds ts (0 + 1)) = 1 := bodyP_bad (by decide)
              unfold readP
              split
              · rename_i heq; cases heq
              · rename_i heq
                have e2 : Kds ts 1 = 2 :: _ := (List.cons.inj heq).2
                have : kAt ts 1 = 2 := by rw [kAt, e2]; rfl
                exact absurd (HK1.out.symm.trans this) hk2
              · rename_i heq _ _
                exact hb)
            rw [hdec]
            by_cases hnn : nn < 0
            · have HRn := (((HR4.setAt 2).setBad true).setPol nn).setPol (-3)
              go_wp2_with fail
              clear c0 c1 c2 c3 hf1 hf2 q0 q1 f0 hz
              refine (query_bad c _ ts 2 _ 1 _ HRn.sc HRn.row (by omega) (by omega) hsm).mono ?_
              rintro e wq ⟨⟨xq, rfl⟩, ha5⟩
              have HR5 := HRn.step ha5
              obtain ⟨c0, c1, c2, c3⟩ := HR5.sc.cells
              obtain ⟨q0, q1, f0⟩ := HR5.polCells
              obtain ⟨r0, r1, g0⟩ := HR5.resCells
              have hz := HR5.lts
              go_wp2_with fail
              refine bodyPost_ret (v := .tuple #[.agg #[.int .i64 0, .pointer none], .int .i64 1]) (by simp [results, Tryz.results163, go_sem, *]) rfl ⟨0, none, by rw [hE2.out]; rfl, ?_⟩
              exact ((HR5.bel.setCell (by show w.heap.size ≤ c + 1; omega) _).setCell (Nat.le_refl _) _).setCell (Nat.le_refl _) _
            · have HRn := ((HR4.setAt 2).setBad true).setPol nn
              go_wp2_with fail
              clear c0 c1 c2 c3 hf1 hf2 q0 q1 f0 hz
              refine (query_bad c _ ts 2 _ 1 _ HRn.sc HRn.row (by omega) (by omega) hsm).mono ?_
              rintro e wq ⟨⟨xq, rfl⟩, ha5⟩
              have HR5 := HRn.step ha5
              obtain ⟨c0, c1, c2, c3⟩ := HR5.sc.cells
              obtain ⟨q0, q1, f0⟩ := HR5.polCells
              obtain ⟨r0, r1, g0⟩ := HR5.resCells
              have hz := HR5.lts
              go_wp2_with fail
              refine bodyPost_ret (v := .tuple #[.agg #[.int .i64 0, .pointer none], .int .i64 1]) (by simp [results, Tryz.results163, go_sem, *]) rfl ⟨0, none, by rw [hE2.out]; rfl, ?_⟩
              exact ((HR5.bel.setCell (by show w.heap.size ≤ c + 1; omega) _).setCell (Nat.le_refl _) _).setCell (Nat.le_refl _) _
        · have HE : Hid (readErr s = bodyP (Kds ts 0)) := hide (by rw [HE0.out]; exact readP_plain k32 k31)
          refine (is_no c _ ts (0 : Nat) _ _ _ HR2.sc HR2.row (by omega) (by omega) (by omega) (next_no (by decide) (by decide) (by decide) k31)).mono ?_
          rintro e w3 ⟨rfl, ha3⟩
          have HRn := HR2.step ha3
          clear k31 k32 HE0 HR0 HR2 ha2 ha3
          go_wp2_with fail
          refine ((all_ok (8 * (Kds ts 0).length + 8)).2 c _ ts 0 0 1 _ HRn.sc HRn.row (by omega) hsm (by omega) (by rw [Kds_len]; omega) (by rw [Kds_len]; omega) (by omega)).mono ?_
          rintro e wq ⟨⟨xq, rfl⟩, hoq⟩
          generalize hrq : R (8 * (Kds ts 0).length + 8) 2 (Kds ts 0) 1 = rq at hoq
          have HRQ := hide hrq
          clear hrq
          match rq, hoq with
          | none, ⟨p4, d4, h04, h14, ha4⟩ =>
            have HR4 := HRn.step ha4
            have hE2 : Hid (readErr s = 1) := hide (by rw [HE.out, bodyP, HRQ.out])
            obtain ⟨c0, c1, c2, c3⟩ := HR4.sc.cells
            obtain ⟨q0, q1, f0⟩ := HR4.polCells
            obtain ⟨r0, r1, g0⟩ := HR4.resCells
            have hz := HR4.lts
            go_wp2_with fail
            refine bodyPost_ret (v := .tuple #[.agg #[.int .i64 0, .pointer none], .int .i64 1]) (by simp [results, Tryz.results163, go_sem, *]) rfl ⟨0, none, by rw [hE2.out]; rfl, ?_⟩
            exact ((HR4.bel.setCell (by show w.heap.size ≤ c + 1; omega) _).setCell (Nat.le_refl _) _).setCell (Nat.le_refl _) _
          | some (ks4, m4), ⟨p4, hk4, hge4, hp4, ha4⟩ =>
            subst hk4
            have HR4 := HRn.step ha4
            obtain ⟨c0, c1, c2, c3⟩ := HR4.sc.cells
            obtain ⟨q0, q1, f0⟩ := HR4.polCells
            obtain ⟨r0, r1, g0⟩ := HR4.resCells
            have hz := HR4.lts
            by_cases hend : p4 = ts.length
            · have hk0 : Kds ts p4 = [] := Kds_ge (by omega)
              have hne : ((p4 : Int) != (ts.length : Int)) = false := by simp [hend]
              by_cases hdeep : 6 < max 0 m4
              · have hE2 : Hid (readErr s = 2) := hide (by rw [HE.out, bodyP, HRQ.out, hk0]; exact if_pos (by omega))
                go_wp2_with fail
                refine bodyPost_ret (v := .tuple #[.agg #[.int .i64 0, .pointer none], .int .i64 2]) (by simp [results, Tryz.results163, go_sem, *]) rfl ⟨0, none, by rw [hE2.out]; rfl, ?_⟩
                exact ((HR4.bel.setCell (by show w.heap.size ≤ c + 1; omega) _).setCell (Nat.le_refl _) _).setCell (Nat.le_refl _) _
              · have hE2 : Hid (readErr s = 0) := hide (by rw [HE.out, bodyP, HRQ.out, hk0]; exact if_neg (by omega))
                go_wp2_with fail
                refine bodyPost_ret (v := .tuple #[.agg #[.int .i64 (-2), .pointer (some xq)], .int .i64 0]) (by simp [results, Tryz.results163, go_sem, *]) rfl ⟨(-2), (some xq), by rw [hE2.out]; rfl, ?_⟩
                exact ((HR4.bel.setCell (by show w.heap.size ≤ c + 1; omega) _).setCell (Nat.le_refl _) _).setCell (Nat.le_refl _) _
            · have hne : ((p4 : Int) != (ts.length : Int)) = true := by simp; omega
              have hE2 : Hid (readErr s = 1) := hide (by
                rw [HE.out, bodyP, HRQ.out, Kds_lt (by omega)])
              go_wp2_with fail
              refine bodyPost_ret (v := .tuple #[.agg #[.int .i64 0, .pointer none], .int .i64 1]) (by simp [results, Tryz.results163, go_sem, *]) rfl ⟨0, none, by rw [hE2.out]; rfl, ?_⟩
              exact ((HR4.bel.setCell (by show w.heap.size ≤ c + 1; omega) _).setCell (Nat.le_refl _) _).setCell (Nat.le_refl _) _
    · have hE1 : Hid (readErr s = 1) := hide (by rw [readErr, if_neg h400, htk])
      have hres1 : w1.heap[w.heap.size]? = some (.cells #[.int .i64 0, .pointer none] 222 (0, 0)) := (hbel.block _ (by simp)).trans (heap_alloc_new _ _)
      have hbel1 : Below w.heap.size w w1 := ((Below.refl _ _).alloc (Nat.le_refl _) _).trans (hbel.mono (by simp))
      have r0 := cell_of_block (i := 0) hres1 rfl
      have r1 := cell_of_block (i := 1) hres1 rfl
      have g0 := free_of_block (i := 0) hres1
      have g1 := free_of_block (i := 1) hres1
      clear htk hbel
      go_wp2_with fail
      refine bodyPost_ret (v := .tuple #[.agg #[.int .i64 0, .pointer none], .int .i64 1]) (by simp [results, Tryz.results163, go_sem, *]) rfl ⟨0, none, by rw [hE1.out]; rfl, ?_⟩
      exact (hbel1.setCell (Nat.le_refl _) _).setCell (Nat.le_refl _) _
end Go.Proofs.YtbkeflgafjnefaaGreatDoor
namespace Go.Proofs.YtbkeflgafjnefaaGreatDoor
open Go.RowKit
open Trib
/-- Does a call's bracket stand behind its name? -/
def callB (kl kt : Nat) : Bool := kt == 4 && decide (26 ≤ kl) && decide (kl ≤ 29)
/-- Is there a blank between two tokens of these kinds (first: there is none ahead)? -/
def sepB (first : Bool) (kl kt : Nat) : Bool := !first && !(kl == 4) && !(kl == 7) && !(kt == 5) && !(kt == 6) && !(kt == 7) && !callB kl kt
/-- A token more, written: the text so far, the last kind, is there none. -/
def wstep (a : List UInt8 × Nat × Bool) (t : List UInt8) : List UInt8 × Nat × Bool := (a.1 ++ (if sepB a.2.2 a.2.1 (kindOf t) then [32] else []) ++ t, kindOf t, false)
/-- Tokens, written. -/
def written (l : List (List UInt8)) : List UInt8 × Nat × Bool := l.foldl wstep ([], 0, true)
theorem written_snoc (l : List (List UInt8)) (t : List UInt8) : written (l ++ [t]) = wstep (written l) t := by simp [written]
/-- What stands when i tokens have been written: the text, the last token. -/
def PInv (ts : List ByteArray) (i : Nat) (o last : ByteArray) : Prop := written ((ts.take i).map (·.data.toList)) = (o.data.toList, kindOf last.data.toList, decide (i = 0)) ∧ o.size ≤ 401 * i
theorem PInv.start (ts : List ByteArray) : PInv ts 0 ⟨#[]⟩ ⟨#[]⟩ := ⟨by rfl, Nat.le_refl _⟩
theorem take_snocL {α : Type} (l : List α) (i : Nat) (h : i < l.length) : l.take (i + 1) = l.take i ++ [l[i]] := by rw [List.take_succ_eq_append_getElem h]
theorem PInv.next {ts : List ByteArray} {i : Nat} {o last o' t : ByteArray} (h : PInv ts i o last) (hi : i < ts.length) (ht : tokAt ts i = t) (hl : t.size ≤ 400) (ho : o'.data.toList = o.data.toList ++ (if sepB (decide (i = 0)) (kindOf last.data.toList) (kindOf t.data.toList) then [32] else []) ++ t.data.toList) : PInv ts (i + 1) o' t := by
  have e : ts[i] = t := by rw [← ht, tokAt, Int.toNat_natCast, List.getD, List.getElem?_eq_getElem hi]; rfl
  refine ⟨?_, ?_⟩
  · rw [take_snocL ts i hi, List.map_append, List.map_cons, List.map_nil, written_snoc, h.1, wstep, ho, e]
    simp
  · have h2 := congrArg List.length ho
    rw [len_eq] at h2
    simp only [List.length_append, len_eq] at h2
    have h3 := h.2
    split at h2 <;> simp at h2 <;> omega
theorem rowIs_of_owns {w : World} {base n : Nat} {v : Value} {ts : List ByteArray} (h : w.ownsRow base 9 1 v n (ts.map Value.string)) (hn : n = ts.length) : RowIs w w.heap.size v ts := by
  subst hn
  rcases h.2 with ⟨rfl, h0⟩ | ⟨g, cap, cur, rfl, _, hg, _, _, _, hc⟩
  · exact Or.inl ⟨rfl, List.eq_nil_of_length_eq_zero h0⟩
  · have hlt := lt_of_block hg
    exact Or.inr ⟨g, cap, cur, rfl, by omega, hlt, hg, by rw [Nat.mul_one] at hc; exact hc⟩
end Go.Proofs.YtbkeflgafjnefaaGreatDoor
namespace Go.Proofs.YtbkeflgafjnefaaGreatDoor
open Go.RowKit
open Trib

def PrintPost (s : ByteArray) (w : World) (e : Ending) (w' : World) : Prop :=
  (readErr s ≠ 0 ∧ e = .returned (.tuple #[.string ⟨#[]⟩, .int .i64 (readErr s : Int)]) ∨ readErr s = 0 ∧ ∃ (o : ByteArray) (l : List (List UInt8)), tokensOf s = some l ∧ o.data.toList = (written l).1 ∧ e = .returned (.tuple #[.string o, .int .i64 0])) ∧ Below w.heap.size w w'
set_option maxHeartbeats 4000000 in
theorem Print_any (s : ByteArray) (w : World) (hs : s.size ≤ maxLen) : Calls Tryz.prog 107 #[.string s] w (PrintPost s w) := by
  go_enter Tryz.func107, Tryz.ntmps107
  go_wp2_with fail
  refine (Read_any s w hs).mono ?_
  rintro e w1 ⟨x, y, rfl, hbel⟩
  by_cases hE : readErr s = 0
  · rw [hE]
    have h400 : s.size ≤ 400 := by
      unfold readErr at hE
      split at hE
      · cases hE
      · omega
    have htk0 : tokensOf s ≠ none := by
      intro e
      unfold readErr at hE
      rw [if_neg (by omega), e] at hE
      cases hE
    go_wp2_with fail
    refine (Tokens_any s _ h400).mono ?_
    rintro e w2 (⟨v, ts, htk, htl, rfl, hown, hbel2⟩ | ⟨htk, _, _⟩)
    · have HTK := hide htk
      have hsm := small_of_tokens h400 htl htk
      have hs1 := hsm.1
      have hfine := tkRun_fine _ _ _ _ htk
      have HF := hide hfine
      have hrow := rowIs_of_owns hown rfl
      have hbelw : Below w.heap.size w w2 := (hbel.alloc hbel.size _).trans (hbel2.mono (by have := hbel.size; simp; omega))
      obtain ⟨a, cap, rfl⟩ := hrow.len
      clear htk hfine htk0 hown hbel2 hbel
      go_wp2_with fail
      go_loop [8, 9, 10] (fun o last i => ∃ (ob lb : ByteArray) (k : Nat), o = .string ob ∧ last = .string lb ∧ i = .int .i64 k ∧ k ≤ ts.length ∧ PInv ts k ob lb) (fun _ _ i => ts.length - (intOf i).toNat)
      case atStart => exact ⟨⟨#[]⟩, ⟨#[]⟩, 0, rfl, rfl, rfl, Nat.zero_le _, PInv.start ts⟩
      case round =>
        obtain ⟨ob, lb, k, rfl, rfl, rfl, hk, hP⟩ := hrel
        have hosz := hP.2
        by_cases hlt : k < ts.length
        · obtain ⟨g, cap', hv, hc⟩ := hrow.cell k hlt
          obtain ⟨rfl, rfl⟩ : a = some ⟨g, 0, none⟩ ∧ cap = cap' := by simpa using hv
          have hlt' : (k : Int) < (ts.length : Int) := by omega
          have htl2 : (tokAt ts k).size ≤ 400 := by
            have e : tokAt ts k = ts[k] := by rw [tokAt, Int.toNat_natCast, List.getD, List.getElem?_eq_getElem hlt]; rfl
            have := (HF.out _ (List.mem_map_of_mem (List.getElem_mem hlt))).1
            rw [len_eq] at this
            rw [e]; omega
          obtain ⟨t, ht⟩ : ∃ t, tokAt ts k = t := ⟨_, rfl⟩
          rw [ht] at hc htl2
          have HT := hide ht
          clear ht hv
          obtain ⟨kl, hkl⟩ : ∃ n, kindOf lb.data.toList = n := ⟨_, rfl⟩
          obtain ⟨kt, hkt⟩ : ∃ n, kindOf t.data.toList = n := ⟨_, rfl⟩
          have hKl : KindIs lb kl := hkl
          have hKt : KindIs t kt := hkt
          have hP' : ∀ o' : ByteArray, o'.data.toList = ob.data.toList ++ (if sepB (decide (k = 0)) kl kt then [32] else []) ++ t.data.toList → PInv ts (k + 1) o' t := fun o' ho => hP.next hlt HT.out htl2 (by rw [hkl, hkt]; exact ho)
          have HP := hide hP'
          clear hP hP' hkl hkt
          go_upto_region 11 with fail
          go_cut [12] (fun cl wr => cl = .bool (callB kl kt) ∧ w2 = wr)
          case first =>
            by_cases k4 : kt = 4
            · subst k4
              have g0 := litT hKt (by decide) (by decide) [40] (by decide)
              by_cases e26 : kl = 26
              · subst e26
                have HCALL : Hid (callB 26 4 = true) := hide rfl
                have h26 := litT hKl (by decide) (by decide) [99, 111, 117, 110, 116] (by decide)
                go_wp2_with fail
                go_meet
                case rel => exact ⟨by rw [HCALL.out], rfl⟩
              have h26 := litF hKl 26 (by decide) (by decide) [99, 111, 117, 110, 116] (by decide) e26
              by_cases e27 : kl = 27
              · subst e27
                have HCALL : Hid (callB 27 4 = true) := hide rfl
                have h27 := litT hKl (by decide) (by decide) [115, 117, 109] (by decide)
                go_wp2_with fail
                go_meet
                case rel => exact ⟨by rw [HCALL.out], rfl⟩
              have h27 := litF hKl 27 (by decide) (by decide) [115, 117, 109] (by decide) e27
              by_cases e28 : kl = 28
              · subst e28
                have HCALL : Hid (callB 28 4 = true) := hide rfl
                have h28 := litT hKl (by decide) (by decide) [109, 105, 110] (by decide)
                go_wp2_with fail
                go_meet
                case rel => exact ⟨by rw [HCALL.out], rfl⟩
              have h28 := litF hKl 28 (by decide) (by decide) [109, 105, 110] (by decide) e28
              by_cases e29 : kl = 29
              · subst e29
                have HCALL : Hid (callB 29 4 = true) := hide rfl
                have h29 := litT hKl (by decide) (by decide) [109, 97, 120] (by decide)
                go_wp2_with fail
                go_meet
                case rel => exact ⟨by rw [HCALL.out], rfl⟩
              have h29 := litF hKl 29 (by decide) (by decide) [109, 97, 120] (by decide) e29
              have HCALL : Hid (callB kl 4 = false) := hide (by simp [callB]; omega)
              go_wp2_with fail
              go_meet
              case rel => exact ⟨by rw [HCALL.out], rfl⟩
            · have g0 := litF hKt 4 (by decide) (by decide) [40] (by decide) k4
              have HCALL : Hid (callB kl kt = false) := hide (by simp [callB, k4])
              go_wp2_with fail
              go_meet
              case rel => exact ⟨by rw [HCALL.out], rfl⟩
          case rest =>
            obtain ⟨rfl, rfl⟩ := hcut
            go_upto_region 12 with fail
            go_cut [79] (fun sp wr => sp = .bool (sepB (decide (k = 0)) kl kt) ∧ w2 = wr)
            case first =>
              by_cases hk0 : k = 0
              · have hk0' : (k : Int) ≤ 0 := by omega
                have HSEP : Hid (sepB (decide (k = 0)) kl kt = false) := hide (by simp [sepB, hk0])
                clear hk0
                go_wp2_with fail
                go_meet
                case rel => exact ⟨by rw [HSEP.out], rfl⟩
              have hk0' : (0 : Int) < (k : Int) := by omega
              by_cases a4 : kl = 4
              · have b4 : (!(lb.toList == [40])) = false := by subst a4; rw [litT hKl (by decide) (by decide) [40] (by decide)]; rfl
                have HSEP : Hid (sepB (decide (k = 0)) kl kt = false) := hide (by simp [sepB, a4])
                clear a4
                go_wp2_with fail
                go_meet
                case rel => exact ⟨by rw [HSEP.out], rfl⟩
              have b4 : (!(lb.toList == [40])) = true := by rw [litF hKl 4 (by decide) (by decide) [40] (by decide) a4]; rfl
              by_cases a7 : kl = 7
              · have b7 : (!(lb.toList == [46])) = false := by subst a7; rw [litT hKl (by decide) (by decide) [46] (by decide)]; rfl
                have HSEP : Hid (sepB (decide (k = 0)) kl kt = false) := hide (by simp [sepB, a7])
                clear a7
                go_wp2_with fail
                go_meet
                case rel => exact ⟨by rw [HSEP.out], rfl⟩
              have b7 : (!(lb.toList == [46])) = true := by rw [litF hKl 7 (by decide) (by decide) [46] (by decide) a7]; rfl
              by_cases c5 : kt = 5
              · have d5 : (!(t.toList == [41])) = false := by subst c5; rw [litT hKt (by decide) (by decide) [41] (by decide)]; rfl
                have HSEP : Hid (sepB (decide (k = 0)) kl kt = false) := hide (by simp [sepB, c5])
                clear c5
                go_wp2_with fail
                go_meet
                case rel => exact ⟨by rw [HSEP.out], rfl⟩
              have d5 : (!(t.toList == [41])) = true := by rw [litF hKt 5 (by decide) (by decide) [41] (by decide) c5]; rfl
              by_cases c6 : kt = 6
              · have d6 : (!(t.toList == [44])) = false := by subst c6; rw [litT hKt (by decide) (by decide) [44] (by decide)]; rfl
                have HSEP : Hid (sepB (decide (k = 0)) kl kt = false) := hide (by simp [sepB, c6])
                clear c6
                go_wp2_with fail
                go_meet
                case rel => exact ⟨by rw [HSEP.out], rfl⟩
              have d6 : (!(t.toList == [44])) = true := by rw [litF hKt 6 (by decide) (by decide) [44] (by decide) c6]; rfl
              by_cases c7 : kt = 7
              · have d7 : (!(t.toList == [46])) = false := by subst c7; rw [litT hKt (by decide) (by decide) [46] (by decide)]; rfl
                have HSEP : Hid (sepB (decide (k = 0)) kl kt = false) := hide (by simp [sepB, c7])
                clear c7
                go_wp2_with fail
                go_meet
                case rel => exact ⟨by rw [HSEP.out], rfl⟩
              have d7 : (!(t.toList == [46])) = true := by rw [litF hKt 7 (by decide) (by decide) [46] (by decide) c7]; rfl
              have HSEP : Hid (sepB (decide (k = 0)) kl kt = !callB kl kt) := hide (by simp [sepB, hk0, a4, a7, c5, c6, c7])
              go_wp2_with fail
              go_meet
              case rel => exact ⟨by rw [HSEP.out], rfl⟩
            case rest =>
              obtain ⟨rfl, rfl⟩ := hcut
              cases hsep : sepB (decide (k = 0)) kl kt
              · have HO := hide (fun o' ho => HP.out o' (by rw [hsep]; exact ho))
                clear HP hsep
                go_wp2_with fail
                go_round
                case rel => exact ⟨ob ++ t, t, k + 1, rfl, rfl, by go_num, by omega, HO.out _ (by simp [ByteArray.data_append])⟩
                case measure => simp [intOf]; omega
              · have HO := hide (fun o' ho => HP.out o' (by rw [hsep]; exact ho))
                clear HP hsep
                go_wp2_with fail
                go_round
                case rel => exact ⟨ob ++ ⟨#[32]⟩ ++ t, t, k + 1, rfl, rfl, by go_num, by omega, HO.out _ (by simp [ByteArray.data_append])⟩
                case measure => simp [intOf]; omega
        · have hfin : Hid (tokensOf s = some (ts.map (·.data.toList)) ∧ ob.data.toList = (written (ts.map (·.data.toList))).1) := hide ⟨HTK.out, by
            have := hP.1
            rw [List.take_of_length_le (by omega)] at this
            rw [this]⟩
          have hlt' : ¬ (k : Int) < (ts.length : Int) := by omega
          go_wp2_with fail
          go_ret2
          exact ⟨Or.inr ⟨hE, ob, _, hfin.out.1, hfin.out.2, rfl⟩, hbelw⟩
    · exact absurd htk htk0
  · have hE' : ((readErr s : Int) != 0) = true := by simp; omega
    go_wp2_with fail
    go_ret2
    exact ⟨Or.inl ⟨hE, rfl⟩, hbel.alloc hbel.size _⟩
end Go.Proofs.YtbkeflgafjnefaaGreatDoor
