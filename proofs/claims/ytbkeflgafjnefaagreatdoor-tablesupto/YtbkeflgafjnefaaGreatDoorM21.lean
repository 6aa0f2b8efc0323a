/- Towards the law of tables: D1, D2, D3, D4, E1, E2, E3, F1, F2. -/
import Derived.Test.YtbkeflgafjnefaaGreatDoorM20
import Derived.Lib.AppendZerosOnto
import Derived.Lib.AppendZeros
import Derived.Laws.OwnMore
import Derived.Test.YtbkeflgafjnefaaGreatDoorM17
import Derived.Test.YtbkeflgafjnefaaGreatDoorM11
import Derived.Test.YtbkeflgafjnefaaGreatDoorM08
namespace Go.Proofs.YtbkeflgafjnefaaGreatDoor
open Go.RowKit
open Trib
/-- A row whose elements are known, wherever it lies. -/
def NRow (w : World) (v : Value) (xs : List Value) : Prop := w.ownsRow 0 173 1 v xs.length xs
set_option maxHeartbeats 4000000 in
set_option maxRecDepth 100000 in
theorem grow_nil (n : Nat) (w : World) (h1 : 1 ≤ n) (hn : n ≤ 10000) :
    Calls Tryz.prog 194 #[.slice none 0 0, .int .i64 (n : Int)] w fun e w' => ∃ G, e = .returned (.slice (some ⟨w.heap.size, 0, none⟩) 0 G) ∧ w'.ownsRow w.heap.size 173 1 (.slice (some ⟨w.heap.size, 0, none⟩) 0 G) 0 [] ∧ Below w.heap.size w w' := by
  obtain ⟨i0, hi, hz0, hz1, hz2⟩ := info_parts infoNP
  have hpos : (0 : Int) < (n : Int) := by omega
  have hrz : ∀ ty, (Builtin.append_ #[147, 3] ty #[.slice none 0 0, .int .i64 (n : Int)]).run Tryz.prog w =
      .ok (.slice (some ⟨w.heap.size, 0, none⟩) (0 + n) (grownCap w (0 + n) 0 173)) (w.drew.alloc (.cells (([] : List Value).toArray ++ Builtin.zeroCells (Value.pointer none).cells n ++ Builtin.zeroCells (Value.pointer none).cells (grownCap w (0 + n) 0 173 - (0 + n))) 173)) := fun ty =>
    Lib.run_append_grow_zeros w 147 3 ty 173 i0 (.pointer none) .i64 .i64 Tryz.underlying147 Tryz.underlying3 hi hz0 none 0 0 [] (run_firstCells_none w.drew i0.size 0 0 0) n (by omega) (by omega) (by omega) (by omega) (by rw [hz2]; omega) (growslice_fits (by omega) (by rw [hz2]; omega))
  have hGn : 0 + n ≤ grownCap w (0 + n) 0 173 := grownCap_ge w _ _ _
  have hG63 := grownCap_le_maxLen w (0 + n) 0 173 (by unfold maxLen; omega)
  generalize grownCap w (0 + n) 0 173 = G at *
  rw [Nat.zero_add] at hrz hGn
  have hpc : (Value.pointer none).cells = #[.pointer none] := rfl
  have hsz : (([] : List Value).toArray ++ Builtin.zeroCells (Value.pointer none).cells n ++ Builtin.zeroCells (Value.pointer none).cells (G - n)).size = G * 1 := by
    rw [Array.size_append, Array.size_append, size_zeroCells, size_zeroCells, hpc]
    simp; omega
  generalize ([] : List Value).toArray ++ Builtin.zeroCells (Value.pointer none).cells n ++ Builtin.zeroCells (Value.pointer none).cells (G - n) = cur at *
  have hG' : (G : Int) ≤ 9223372036854775807 := by unfold maxLen at hG63; omega
  have hnG : (n : Int) ≤ (G : Int) := by omega
  go_enter Tryz.func194, Tryz.ntmps194
  go_wp2_with (at_builtin; refine Lib.wpList_append_run _ rfl _ _ _ _ rfl _ _ rfl rfl _ _ (hrz _) ?_)
  all_goals
    go_ret
    exact ⟨G, rfl, World.ownsRow_made w.drew cur G (Nat.le_refl _) hG63 hsz, ((Below.refl _ w).drew).alloc (Nat.le_refl _) _⟩
/-- One row's elements behind another's. -/
theorem append_rows {w : World} {base : Nat} {v u : Value} {n m : Nat} {xs ys : List Value} (hv : w.ownsRow base 173 1 v n xs) (hu : w.ownsRow 0 173 1 u m ys) (h1 : ∀ y ∈ ys, y.oneCell' = true) (hnm : n + m ≤ 100000) (hb : base ≤ w.heap.size) :
    ∃ v' w', (∀ ty, (Builtin.append_ #[147, 147] ty #[v, u]).run Tryz.prog w = .ok v' w') ∧ w'.ownsRow base 173 1 v' (n + m) (xs ++ ys) ∧ w.grownBy w' v.ownBlock := by
  obtain ⟨i0, hi, hz0, hz1, hz2⟩ := info_parts infoNP
  rcases hu.2 with ⟨rfl, rfl⟩ | ⟨g, cap, cur, rfl, _⟩
  · have hy : ys = [] := List.eq_nil_of_length_eq_zero (by rw [hu.1])
    subst hy
    refine ⟨v, w, fun ty => run_append_owned_none w base _ ty _ i0 1 Tryz.underlying147 hi v n xs hv, by simpa using hv, grownBy_refl _ _⟩
  · have hc := hu.cells rfl
    obtain ⟨v', w', hr, h2, h3, _⟩ := run_append_own (P := Tryz.prog) w base 147 147 173 i0 (.pointer none) 1 8 Tryz.underlying147 hi hz0 hz1 hz2 rfl (by decide) v n xs hv ⟨g, 0, none⟩ m cap ys hu.1 hc h1 (by unfold maxLen; omega) (by omega) hb
    refine ⟨v', w', fun ty => ?_, h2, h3⟩
    have : Builtin.append_ #[147, 147] ty #[v, .slice (some ⟨g, 0, none⟩) m cap] = Builtin.append_ #[147, 147] 147 #[v, .slice (some ⟨g, 0, none⟩) m cap] := rfl
    rw [this]; exact hr
set_option maxHeartbeats 8000000 in
set_option maxRecDepth 100000 in
theorem concat_two (N : Nat) (s1 s2 : Value) (xs ys : List Value) (w : World) (hN : w.heap[N]? = some (.cells #[s1, s2] 147 (0, 0))) (h1 : NRow w s1 xs) (h2 : NRow w s2 ys) (hx : ∀ y ∈ xs, y.oneCell' = true) (hy : ∀ y ∈ ys, y.oneCell' = true) (hx1 : 1 ≤ xs.length) (hl : xs.length + ys.length ≤ 10000) :
    Calls Tryz.prog 134 #[.slice (some ⟨N, 0, none⟩) 2 2] w fun e w' => ∃ v, e = .returned v ∧ w'.ownsRow w.heap.size 173 1 v (xs.length + ys.length) (xs ++ ys) ∧ Below w.heap.size w w' := by
  obtain ⟨a1, c1, rfl⟩ := row_shape h1
  obtain ⟨a2, c2, rfl⟩ := row_shape h2
  have d0 := blk_cell hN (i := 0) rfl
  have d1 := blk_cell hN (i := 1) rfl
  have hw1 : IntKind.i64.wrap ((xs.length : Int)) = (xs.length : Int) := by rw [IntKind.wrap_i64]; omega
  have hw2 : IntKind.i64.wrap ((xs.length : Int) + (ys.length : Int)) = (xs.length : Int) + (ys.length : Int) := by rw [IntKind.wrap_i64]; omega
  have hn1 : ¬ ((xs.length : Int) < 0) := by omega
  have hn2 : ¬ ((xs.length : Int) + (ys.length : Int) < 0) := by omega
  go_enter Tryz.func134, Tryz.ntmps134
  go_wp2_with fail
  refine wp_loop_rounds 3 ?_
  rw [rounds_succ]
  go_wp2_with fail
  rw [rounds_succ]
  go_wp2_with fail
  rw [rounds_succ]
  go_wp2_with fail
  have hgr := grow_nil (xs.length + ys.length) w (by omega) (by omega)
  rw [Int.natCast_add] at hgr
  refine hgr.mono ?_
  rintro e w1 ⟨G, rfl, hrow1, hb1⟩
  have hbN : N < w.heap.size := (Array.getElem?_eq_some_iff.1 hN).1
  have hN1 : w1.heap[N]? = some (.cells #[.slice a1 xs.length c1, .slice a2 ys.length c2] 147 (0, 0)) := (hb1.block N hbN).trans hN
  have z1 := hb1.size
  have k1 : NRow w1 (.slice a1 xs.length c1) xs := row_below h1 hb1
  have k2 : NRow w1 (.slice a2 ys.length c2) ys := row_below h2 hb1
  obtain ⟨v2, w2, hr2, hrow2, hg2⟩ := append_rows hrow1 k1 hx (by omega) z1
  have hown1 : ∀ k, (Value.slice (some ⟨w.heap.size, 0, none⟩) 0 G).ownBlock = some k → w.heap.size ≤ k := fun k e => (hrow1.lt k e).1
  have hb2 : Below w.heap.size w w2 := hb1.grown hg2 z1 hown1
  have hN2 : w2.heap[N]? = some (.cells #[.slice a1 xs.length c1, .slice a2 ys.length c2] 147 (0, 0)) := (hb2.block N hbN).trans hN
  have z2 := hb2.size
  have k2' : NRow w2 (.slice a2 ys.length c2) ys := row_below h2 hb2
  rw [Nat.zero_add, List.nil_append] at hrow2
  obtain ⟨v3, w3, hr3, hrow3, hg3⟩ := append_rows hrow2 k2' hy (by omega) z2
  have hb3 : Below w.heap.size w w3 := hb2.grown hg3 z2 (fun k e => (hrow2.lt k e).1)
  clear d0 d1
  have d0 := blk_cell hN1 (i := 0) rfl
  have d1 := blk_cell hN2 (i := 1) rfl
  go_wp2_with fail
  refine wp_loop_rounds 3 ?_
  rw [rounds_succ]
  go_wp2_with (at_builtin; refine Lib.wpList_append_run _ rfl _ _ _ _ rfl _ _ rfl rfl _ _ (hr2 _) ?_)
  rw [rounds_succ]
  go_wp2_with (at_builtin; refine Lib.wpList_append_run _ rfl _ _ _ _ rfl _ _ rfl rfl _ _ (hr3 _) ?_)
  rw [rounds_succ]
  go_wp2_with fail
  go_ret
  exact ⟨v3, rfl, hrow3, hb3⟩
end Go.Proofs.YtbkeflgafjnefaaGreatDoor
namespace Go.Proofs.YtbkeflgafjnefaaGreatDoor
open Go.RowKit
open Trib
/-- A node's depth is told right, in whatever grows out of w. -/
def DepthAt (w : World) (v : Value) (d : Nat) : Prop := ∀ w' : World, Below w.heap.size w w' → Calls Tryz.prog 133 #[v] w' fun e w'' => e = .returned (.int .i64 (d : Int)) ∧ Below w'.heap.size w' w''
inductive All2 (w : World) : List Value → List Nat → Prop
  | nil : All2 w [] []
  | cons {x : Value} {d : Nat} {xs : List Value} {ds : List Nat} : DepthAt w x d → All2 w xs ds → All2 w (x :: xs) (d :: ds)
theorem All2.len {w : World} {xs : List Value} {ds : List Nat} (h : All2 w xs ds) : xs.length = ds.length := by
  induction h with
  | nil => rfl
  | cons _ _ ih => simp [ih]
theorem All2.get {w : World} {xs : List Value} {ds : List Nat} (h : All2 w xs ds) : ∀ (j : Nat) (h1 : j < xs.length) (h2 : j < ds.length), DepthAt w xs[j] ds[j] := by
  induction h with
  | nil => intro j h1; exact absurd h1 (Nat.not_lt_zero _)
  | cons hd _ ih =>
    intro j h1 h2
    cases j with
    | zero => exact hd
    | succ j => exact ih j (by simpa using h1) (by simpa using h2)
theorem All2.app {w : World} {xs ys : List Value} {ds es : List Nat} (h1 : All2 w xs ds) (h2 : All2 w ys es) : All2 w (xs ++ ys) (ds ++ es) := by
  induction h1 with
  | nil => exact h2
  | cons hd _ ih => exact .cons hd ih
theorem DepthAt.below {w w1 : World} {v : Value} {d : Nat} (h : DepthAt w v d) (hb : Below w.heap.size w w1) : DepthAt w1 v d := fun w' hb' => h w' (hb.trans (hb'.mono hb.size))
theorem All2.grow {w w1 : World} {xs : List Value} {ds : List Nat} (h : All2 w xs ds) (hb : Below w.heap.size w w1) : All2 w1 xs ds := by
  induction h with
  | nil => exact .nil
  | cons hd _ ih => exact .cons (hd.below hb) ih
def maxl (ds : List Nat) : Nat := ds.foldr max 0
theorem maxl_app (a b : List Nat) : maxl (a ++ b) = max (maxl a) (maxl b) := by
  induction a with
  | nil => simp [maxl]
  | cons x r ih =>
    show max x (maxl (r ++ b)) = max (max x (maxl r)) (maxl b)
    rw [ih]; omega
theorem maxl_take (ds : List Nat) (j : Nat) (h : j < ds.length) : maxl (ds.take (j + 1)) = max (maxl (ds.take j)) ds[j] := by
  rw [List.take_succ_eq_append_getElem h, maxl_app]
  simp [maxl]
/-- The greatest of the first j, behind a name. -/
def MaxIs (ds : List Nat) (j : Nat) (n : Int) : Prop := n = (maxl (ds.take j) : Int)
theorem MaxIs.next {ds : List Nat} {j : Nat} {n : Int} (h : MaxIs ds j n) (hj : j < ds.length) : MaxIs ds (j + 1) (max n (ds[j] : Int)) := by
  unfold MaxIs at h ⊢
  rw [maxl_take ds j hj, h]; omega
theorem MaxIs.fin {ds : List Nat} {j : Nat} {n : Int} (h : MaxIs ds j n) (hj : ¬ j < ds.length) : n = (maxl ds : Int) := by
  unfold MaxIs at h
  rwa [List.take_of_length_le (by omega)] at h
theorem NRow.cell {w : World} {v : Value} {xs : List Value} (h : NRow w v xs) (i : Nat) (hi : i < xs.length) : ∃ g cap, v = .slice (some ⟨g, 0, none⟩) xs.length cap ∧ w.cell? ⟨g, i, none⟩ = some xs[i] := by
  rcases h.2 with ⟨_, h0⟩ | ⟨g, cap, cur, rfl, _⟩
  · omega
  · refine ⟨g, cap, rfl, ?_⟩
    have := World.ownsRow.cells h rfl i xs[i] (List.getElem?_eq_getElem hi)
    rwa [Addr.add_lit, Nat.zero_add] at this
set_option maxHeartbeats 4000000 in
theorem deepest_any (lv : Value) (xs : List Value) (ds : List Nat) (w : World) (hrow : NRow w lv xs) (hall : All2 w xs ds) (hl : xs.length ≤ 100000) :
    Calls Tryz.prog 79 #[lv] w fun e w' => e = .returned (.int .i64 (maxl ds : Int)) ∧ Below w.heap.size w w' := by
  obtain ⟨a, cap, rfl⟩ := row_shape hrow
  have HLEN := hide hall.len
  go_enter Tryz.func79, Tryz.ntmps79
  go_wp2_with fail
  go_loopg [3, 8] (xs.length + 1) (fun q dv i wr => ∃ (j : Nat) (n : Int), j ≤ xs.length ∧ dv = .int .i64 n ∧ i = .int .i64 j ∧ MaxIs ds j n ∧ Below w.heap.size w wr ∧ xs.length - j < q)
  case atStart => exact ⟨0, 0, Nat.zero_le _, rfl, rfl, rfl, Below.refl _ _, by omega⟩
  case round =>
    obtain ⟨j, n, hj, rfl, rfl, hm, hb, hq⟩ := hrel
    by_cases hlt : j < xs.length
    · have hlt' : (j : Int) < (xs.length : Int) := by omega
      obtain ⟨g, cap', hv, hc⟩ := NRow.cell (row_below hrow hb) j hlt
      obtain ⟨rfl, rfl⟩ : a = some ⟨g, 0, none⟩ ∧ cap = cap' := by simpa using hv
      have hd := hall.get j hlt (by have := HLEN.out; omega) wr hb
      have HM := hide (hm.next (by have := HLEN.out; omega : j < ds.length))
      have hwr : IntKind.i64.wrap ((j : Int) + 1) = (j : Int) + 1 := by rw [IntKind.wrap_i64]; omega
      have HQ := hide hq
      generalize xs[j] = x at *
      generalize ds[j] = d at *
      clear hm hq hv
      go_wp2_with fail
      refine hd.mono ?_
      rintro e w2 ⟨rfl, hb2⟩
      go_wp2_with fail
      have hq := HQ.out
      go_roundg (gk - 1)
      case measure => omega
      case rel => exact ⟨j + 1, max n (d : Int), by omega, by first | rfl | go_num, by go_num, HM.out, hb.trans (hb2.mono hb.size), by omega⟩
    · have hlt' : (xs.length : Int) ≤ (j : Int) := by omega
      have hfin := hm.fin (by have := HLEN.out; omega : ¬ j < ds.length)
      subst hfin
      clear hm hq
      go_wp2_with fail
      go_ret
      exact ⟨rfl, hb⟩
end Go.Proofs.YtbkeflgafjnefaaGreatDoor
namespace Go.Proofs.YtbkeflgafjnefaaGreatDoor
open Go.RowKit
open Trib
theorem cells_of {w : World} {b : Nat} {ev sv wv gv hv : Value} (h : w.heap[b]? = some (.cells #[ev, sv, wv, gv, hv] 175 (0, 0))) : w.cell? ⟨b, 2, none⟩ = some wv ∧ w.cell? ⟨b, 4, none⟩ = some hv := ⟨blk_cell h (i := 2) rfl, blk_cell h (i := 4) rfl⟩
theorem nrow_of {w : World} {base n : Nat} {v : Value} {xs : List Value} (h : w.ownsRow base 173 1 v n xs) (hn : n = xs.length) : NRow w v xs := by subst hn; exact row_low (Nat.zero_le _) h
theorem push_one {w : World} {base : Nat} {v : Value} {n : Nat} {xs : List Value} (p : Option Addr) (hv : w.ownsRow base 173 1 v n xs) (hn : n ≤ 90000) (hb : base ≤ w.heap.size) :
    ∃ v' w', (∀ ty, (Builtin.append_ #[147, 147] ty #[v, .slice (some ⟨w.heap.size, 0, none⟩) 1 1]).run Tryz.prog (w.alloc (.cells #[.pointer p] 173)) = .ok v' w') ∧ w'.ownsRow base 173 1 v' (n + 1) (xs ++ [.pointer p]) ∧ Below base w w' := by
  have hu : (w.alloc (.cells #[.pointer p] 173)).ownsRow 0 173 1 (.slice (some ⟨w.heap.size, 0, none⟩) 1 1) 1 [.pointer p] :=
    ⟨rfl, .inr ⟨w.heap.size, 1, #[.pointer p], rfl, Nat.zero_le _, heap_alloc_new w _, Nat.le_refl _, by unfold maxLen; omega, rfl, rfl⟩⟩
  obtain ⟨v', w', h1, h2, h3⟩ := append_rows (hv.alloc _) hu (by simp [Value.oneCell']) (by omega) (by rw [World.size_alloc]; omega)
  exact ⟨v', w', h1, h2, ((Below.refl base w).alloc hb _).grown h3 (by rw [World.size_alloc]; omega) (fun k e => (hv.lt k e).1)⟩
set_option maxHeartbeats 4000000 in
theorem nodes_any (b : Nat) (ev sv gv wv hv : Value) (es gs ws hs : List Value) (w : World)
    (hb : w.heap[b]? = some (.cells #[ev, sv, wv, gv, hv] 175 (0, 0))) (he : NRow w ev es) (hg : NRow w gv gs)
    (hes : ∀ y ∈ es, y.oneCell' = true) (hgs : ∀ y ∈ gs, y.oneCell' = true) (h1 : 1 ≤ es.length) (hl : es.length + gs.length ≤ 10000)
    (hw : wv = .pointer none ∧ ws = [] ∨ ∃ k, wv = .pointer (some k) ∧ ws = [.pointer (some k)])
    (hh : hv = .pointer none ∧ hs = [] ∨ ∃ k, hv = .pointer (some k) ∧ hs = [.pointer (some k)]) :
    Calls Tryz.prog 80 #[.pointer (some ⟨b, 0, none⟩)] w fun e w' => ∃ v, e = .returned v ∧ NRow w' v (es ++ gs ++ ws ++ hs) ∧ Below w.heap.size w w' := by
  obtain ⟨a1, c1, rfl⟩ := row_shape he
  obtain ⟨a2, c2, rfl⟩ := row_shape hg
  have d0 : w.cell? ⟨b, 0, none⟩ = some (.slice a1 es.length c1) := blk_cell hb (i := 0) rfl
  have d2 : w.cell? ⟨b, 2, none⟩ = some (wv) := blk_cell hb (i := 2) rfl
  have d3 : w.cell? ⟨b, 3, none⟩ = some (.slice a2 gs.length c2) := blk_cell hb (i := 3) rfl
  have d4 : w.cell? ⟨b, 4, none⟩ = some (hv) := blk_cell hb (i := 4) rfl
  have HES := hide hes
  have HGS := hide hgs
  have HW := hide hw
  have HH := hide hh
  clear hes hgs hw hh
  go_enter Tryz.func80, Tryz.ntmps80
  go_wp2_with fail
  have hbA : Below w.heap.size w (w.alloc (.cells #[.slice a1 es.length c1, .slice a2 gs.length c2] 147)).drew := ((Below.refl _ w).alloc (Nat.le_refl _) _).drew
  have hcall := concat_two w.heap.size _ _ es gs _ (show (w.alloc (.cells #[.slice a1 es.length c1, .slice a2 gs.length c2] 147)).drew.heap[w.heap.size]? = _ from heap_alloc_new w _) (row_below he hbA) (row_below hg hbA) HES.out HGS.out h1 hl
  have HC := hide hcall
  clear hcall
  go_region_law (go_simp; go_at_call 134; refine HC.out.mono ?_; rintro e w2 ⟨v, rfl, hrow2, hb2⟩)
  all_goals
    have hb3 : Below w.heap.size w w2 := hbA.trans (hb2.mono (by have := hbA.size; omega))
    have z2 := hb2.size
    have hblt : b < w.heap.size := (Array.getElem?_eq_some_iff.1 hb).1
    have hblk2 := (hb3.block b hblt).trans hb
    rcases HW.out with ⟨rfl, rfl⟩ | ⟨k, rfl, rfl⟩
    · rcases HH.out with ⟨rfl, rfl⟩ | ⟨k2, rfl, rfl⟩
      · obtain ⟨e2, e4⟩ := cells_of hblk2
        clear HC d0 d2 d3 d4
        go_wp2_with fail
        go_ret
        exact ⟨v, rfl, by have hn := nrow_of hrow2 (by simp only [List.length_append]); simpa using hn, hb3⟩
      · obtain ⟨v3, w3, hr3, hrow3, hb3'⟩ := push_one (some k2) hrow2 (by omega) z2
        obtain ⟨e2, e4⟩ := cells_of hblk2
        clear HC d0 d2 d3 d4
        go_wp2_with (at_builtin; refine Lib.wpList_append_run _ rfl _ _ _ _ rfl _ _ rfl rfl _ _ (hr3 _) ?_)
        go_ret
        exact ⟨v3, rfl, by have hn := nrow_of hrow3 (by simp only [List.length_append, List.length_cons, List.length_nil]); simpa using hn, hb3.trans (hb3'.mono (by have := hbA.size; omega))⟩
    · obtain ⟨v3, w3, hr3, hrow3, hb3'⟩ := push_one (some k) hrow2 (by omega) z2
      have hb4 : Below w.heap.size w w3 := hb3.trans (hb3'.mono (by have := hbA.size; omega))
      have z3 := hb3'.size
      have hblk3 : w3.heap[b]? = some (.cells #[.slice a1 es.length c1, sv, .pointer (some k), .slice a2 gs.length c2, hv] 175 (0, 0)) := (hb4.block b hblt).trans hb
      rcases HH.out with ⟨rfl, rfl⟩ | ⟨k2, rfl, rfl⟩
      · obtain ⟨e2, e4⟩ := cells_of hblk2
        obtain ⟨f2, f4⟩ := cells_of hblk3
        clear HC d0 d2 d3 d4
        go_wp2_with (at_builtin; refine Lib.wpList_append_run _ rfl _ _ _ _ rfl _ _ rfl rfl _ _ (hr3 _) ?_)
        go_ret
        exact ⟨v3, rfl, by have hn := nrow_of hrow3 (by simp only [List.length_append, List.length_cons, List.length_nil]); simpa using hn, hb4⟩
      · obtain ⟨v5, w5, hr5, hrow5, hb5'⟩ := push_one (some k2) hrow3 (by omega) (by omega)
        obtain ⟨e2, e4⟩ := cells_of hblk2
        obtain ⟨f2, f4⟩ := cells_of hblk3
        clear HC d0 d2 d3 d4
        go_upto_region 5 with (at_builtin; refine Lib.wpList_append_run _ rfl _ _ _ _ rfl _ _ rfl rfl _ _ (hr3 _) ?_)
        clear hr3 hrow2 hrow3
        go_wp2_with (at_builtin; refine Lib.wpList_append_run _ rfl _ _ _ _ rfl _ _ rfl rfl _ _ (hr5 _) ?_)
        go_ret
        exact ⟨v5, rfl, by have hn := nrow_of hrow5 (by simp only [List.length_append, List.length_cons, List.length_nil]); simpa using hn, hb4.trans (hb5'.mono (by have := hbA.size; omega))⟩
end Go.Proofs.YtbkeflgafjnefaaGreatDoor
namespace Go.Proofs.YtbkeflgafjnefaaGreatDoor
open Go.RowKit
open Trib
/-- A query's depth is told right, in whatever grows out of w. -/
def DepthQ (w : World) (v : Value) (d : Nat) : Prop := ∀ w' : World, Below w.heap.size w w' → Calls Tryz.prog 43 #[v] w' fun e w'' => e = .returned (.int .i64 (d : Int)) ∧ Below w'.heap.size w' w''
set_option maxHeartbeats 4000000 in
theorem depth_parts (b : Nat) (c0 c1 c2 c3 c4 c5 c8 c9 c10 pv : Value) (xs : List Value) (ds : List Nat) (w : World)
    (hb : w.heap[b]? = some (.cells #[c0, c1, c2, c3, c4, c5, pv, .pointer none, c8, c9, c10] 333 (0, 0))) (hrow : NRow w pv xs) (hall : All2 w xs ds) (hl : xs.length ≤ 100000) (hd : maxl ds ≤ 100000) :
    Calls Tryz.prog 133 #[.pointer (some ⟨b, 0, none⟩)] w fun e w' => e = .returned (.int .i64 ((1 + maxl ds : Nat) : Int)) ∧ Below w.heap.size w w' := by
  obtain ⟨a1, c, rfl⟩ := row_shape hrow
  have d6 : w.cell? ⟨b, 6, none⟩ = some (.slice a1 xs.length c) := blk_cell hb (i := 6) rfl
  have d7 : w.cell? ⟨b, 7, none⟩ = some (.pointer none) := blk_cell hb (i := 7) rfl
  have hcall := deepest_any _ xs ds w hrow hall hl
  have hwr : IntKind.i64.wrap (1 + (maxl ds : Int)) = 1 + (maxl ds : Int) := by rw [IntKind.wrap_i64]; omega
  have HC := hide hcall
  clear hcall hb hall
  generalize maxl ds = m at *
  go_enter Tryz.func133, Tryz.ntmps133
  go_wp2_with (go_at_call 79; refine HC.out.mono ?_; rintro e w2 ⟨rfl, hb2⟩)
  go_ret
  exact ⟨by first | rfl | go_num, hb2⟩
set_option maxHeartbeats 4000000 in
theorem depth_query (b : Nat) (c0 c1 c2 c3 c4 c5 c8 c9 c10 pv : Value) (k : Addr) (d : Nat) (w : World)
    (hb : w.heap[b]? = some (.cells #[c0, c1, c2, c3, c4, c5, pv, .pointer (some k), c8, c9, c10] 333 (0, 0))) (hq : DepthQ w (.pointer (some k)) d) (hd : d ≤ 100000) :
    Calls Tryz.prog 133 #[.pointer (some ⟨b, 0, none⟩)] w fun e w' => e = .returned (.int .i64 ((1 + d : Nat) : Int)) ∧ Below w.heap.size w w' := by
  have d7 : w.cell? ⟨b, 7, none⟩ = some (.pointer (some k)) := blk_cell hb (i := 7) rfl
  have hcall := hq w (Below.refl _ _)
  have hwr : IntKind.i64.wrap (1 + (d : Int)) = 1 + (d : Int) := by rw [IntKind.wrap_i64]; omega
  have HC := hide hcall
  clear hcall hb hq
  go_enter Tryz.func133, Tryz.ntmps133
  go_wp2_with (go_at_call 43; refine HC.out.mono ?_; rintro e w2 ⟨rfl, hb2⟩)
  go_ret
  exact ⟨by first | rfl | go_num, hb2⟩
set_option maxHeartbeats 4000000 in
theorem query_depth (b : Nat) (ev sv gv wv hv : Value) (es gs ws hs : List Value) (des dgs dws dhs : List Nat) (w : World)
    (hb : w.heap[b]? = some (.cells #[ev, sv, wv, gv, hv] 175 (0, 0))) (he : NRow w ev es) (hg : NRow w gv gs)
    (hes : ∀ y ∈ es, y.oneCell' = true) (hgs : ∀ y ∈ gs, y.oneCell' = true) (h1 : 1 ≤ es.length) (hl : es.length + gs.length ≤ 10000)
    (hw : wv = .pointer none ∧ ws = [] ∨ ∃ k, wv = .pointer (some k) ∧ ws = [.pointer (some k)])
    (hh : hv = .pointer none ∧ hs = [] ∨ ∃ k, hv = .pointer (some k) ∧ hs = [.pointer (some k)])
    (ae : All2 w es des) (ag : All2 w gs dgs) (aw : All2 w ws dws) (ah : All2 w hs dhs) (hd : maxl (des ++ dgs ++ dws ++ dhs) ≤ 100000) :
    Calls Tryz.prog 43 #[.pointer (some ⟨b, 0, none⟩)] w fun e w' => e = .returned (.int .i64 ((1 + maxl (des ++ dgs ++ dws ++ dhs) : Nat) : Int)) ∧ Below w.heap.size w w' := by
  have hcall := nodes_any b ev sv gv wv hv es gs ws hs w hb he hg hes hgs h1 hl hw hh
  have hall : All2 w (es ++ gs ++ ws ++ hs) (des ++ dgs ++ dws ++ dhs) := ((ae.app ag).app aw).app ah
  have hln : (es ++ gs ++ ws ++ hs).length ≤ 100000 := by
    simp only [List.length_append]
    have : ws.length ≤ 1 := by rcases hw with ⟨_, rfl⟩ | ⟨_, _, rfl⟩ <;> simp
    have : hs.length ≤ 1 := by rcases hh with ⟨_, rfl⟩ | ⟨_, _, rfl⟩ <;> simp
    omega
  have hwr : IntKind.i64.wrap (1 + (maxl (des ++ dgs ++ dws ++ dhs) : Int)) = 1 + (maxl (des ++ dgs ++ dws ++ dhs) : Int) := by rw [IntKind.wrap_i64]; omega
  generalize es ++ gs ++ ws ++ hs = xs at *
  generalize des ++ dgs ++ dws ++ dhs = ds at *
  have hcall2 := fun (v : Value) (w2 : World) (hr : NRow w2 v xs) (hb2 : Below w.heap.size w w2) => deepest_any v xs ds w2 hr (hall.grow hb2) hln
  have HC := hide hcall
  have HC2 := hide hcall2
  clear hcall hcall2 hb hall hw hh hes hgs ae ag aw ah he hg hln
  generalize maxl ds = m at *
  go_enter Tryz.func43, Tryz.ntmps43
  go_wp2_with (first | (go_at_call 80; refine HC.out.mono ?_; rintro e w2 ⟨v, rfl, hr2, hb2⟩) | (go_at_call 79; refine (HC2.out _ _ hr2 hb2).mono ?_; rintro e w3 ⟨rfl, hb3⟩))
  go_ret
  exact ⟨by first | rfl | go_num, hb2.trans (hb3.mono hb2.size)⟩
/-- What is known of a tree in memory, by its shape. -/
def DepthOk (w : World) (tag : Nat) (t : Tr) (vs : List Value) : Prop :=
  match tag with
  | 0 => ∃ k, vs = [.pointer (some k)] ∧ DepthAt w (.pointer (some k)) (dep t)
  | 1 => ∃ ds, All2 w vs ds ∧ maxl ds = dep t ∧ vs.length = lenT t ∧ ∀ y ∈ vs, y.oneCell' = true
  | 2 => ∃ k, vs = [.pointer (some k)] ∧ DepthQ w (.pointer (some k)) (dep t)
  | _ => (vs = [] ∧ dep t = 0) ∨ ∃ k, vs = [.pointer (some k)] ∧ DepthAt w (.pointer (some k)) (dep t)
theorem opt_all {w : World} {t : Tr} {vs : List Value} (h : DepthOk w 3 t vs) : (∃ ds, All2 w vs ds ∧ maxl ds = dep t) ∧ (optV vs = .pointer none ∧ vs = [] ∨ ∃ k, optV vs = .pointer (some k) ∧ vs = [.pointer (some k)]) := by
  rcases h with ⟨rfl, h0⟩ | ⟨k, rfl, hd⟩
  · exact ⟨⟨[], .nil, by rw [h0]; rfl⟩, .inl ⟨rfl, rfl⟩⟩
  · exact ⟨⟨[dep t], .cons hd .nil, by simp [maxl]⟩, .inr ⟨k, rfl, rfl⟩⟩
theorem stays_below {lo : Nat} {w w' : World} (h : Below w.heap.size w w') : Stays lo w w' := fun k _ hlt => h.block k hlt
theorem depth_ok {N : Nat} (hN : N ≤ 5000) {tag : Nat} {t : Tr} (hwf : Wf N tag t) : ∀ (w : World) (lo : Nat) (vs : List Value), Is w lo t vs → dep t ≤ 100000 → DepthOk w tag t vs := by
  induction hwf with
  | @node k s n v p hp hlp ih =>
    intro w lo vs his hd
    cases his with
    | @node b _ _ _ _ _ _ pv vs qs _ _ _ hlo hblk hrow hpi hqi =>
      cases hqi
      have hdp : dep (.node k s n v p .nil) = 1 + dep p := by rw [dep]
      obtain ⟨ds, hall, hm, hlen, h1⟩ := ih w lo vs hpi (by omega)
      refine ⟨_, rfl, fun w' hb' => ?_⟩
      rw [hdp, ← hm]
      exact depth_parts b _ _ _ _ _ _ _ _ _ pv vs ds w' ((hb'.block b (Array.getElem?_eq_some_iff.1 hblk).1).trans hblk) (row_low (Nat.zero_le _) (row_below hrow hb')) (hall.grow hb') (by omega) (by omega)
  | @nodeQ k s n v e g wh h l hq ih =>
    intro w lo vs his hd
    cases his with
    | @node b _ _ _ _ _ _ pv vs qs _ _ _ hlo hblk hrow hpi hqi =>
      have hdp : dep (.node k s n v .nil (.query e l wh g h)) = 1 + dep (.query e l wh g h) := by rw [dep]; intro h; cases h
      obtain ⟨k2, rfl, hdq⟩ := ih w lo qs hqi (by omega)
      refine ⟨_, rfl, fun w' hb' => ?_⟩
      rw [hdp]
      exact depth_query b _ _ _ _ _ _ _ _ _ pv k2 _ w' ((hb'.block b (Array.getElem?_eq_some_iff.1 hblk).1).trans hblk) (fun w2 hb2 => hdq w2 (hb'.trans (hb2.mono hb'.size))) (by omega)
  | nil =>
    intro w lo vs his hd
    cases his
    exact ⟨[], .nil, rfl, rfl, by simp⟩
  | @cons h t hh ht ih1 ih2 =>
    intro w lo vs his hd
    cases his with
    | @cons _ _ v vs i1 i2 =>
      have e : dep (.cons h t) = max (dep h) (dep t) := by rw [dep]
      obtain ⟨k, e1, hd1⟩ := ih1 w lo [v] i1 (by omega)
      obtain rfl := List.head_eq_of_cons_eq e1
      obtain ⟨ds, hall, hm, hlen, h1⟩ := ih2 w lo vs i2 (by omega)
      refine ⟨dep h :: ds, .cons hd1 hall, ?_, ?_, ?_⟩
      · show max (dep h) (maxl ds) = _
        rw [hm, e]
      · show vs.length + 1 = lenT t + 1
        rw [hlen]
      · intro y hy
        rcases List.mem_cons.1 hy with rfl | hy
        · rfl
        · exact h1 y hy
  | @query e0 e1 g wh h l he hg hw hh hle hlg ie ig iw ih =>
    intro w lo vs his hd
    cases his with
    | @query b _ _ _ _ _ ev sv gv es ws gs hs hlo hblk hre hrs hrg i1 i2 i3 i4 =>
      have e : dep (.query (.cons e0 e1) l wh g h) = 1 + max (dep (.cons e0 e1)) (max (dep g) (max (dep wh) (dep h))) := by conv => { lhs; rw [dep] }
      obtain ⟨des, ae, me, le1, oe⟩ := ie w lo es i1 (by omega)
      obtain ⟨dgs, ag, mg, lg1, og⟩ := ig w lo gs i3 (by omega)
      obtain ⟨⟨dws, aw, mw⟩, ow⟩ := opt_all (iw w lo ws i2 (by omega))
      obtain ⟨⟨dhs, ah, mh⟩, oh⟩ := opt_all (ih w lo hs i4 (by omega))
      have em : maxl (des ++ dgs ++ dws ++ dhs) = max (dep (.cons e0 e1)) (max (dep g) (max (dep wh) (dep h))) := by
        rw [maxl_app, maxl_app, maxl_app, me, mg, mw, mh]; omega
      have hlen1 : 1 ≤ es.length := by rw [le1]; show 1 ≤ lenT e1 + 1; omega
      refine ⟨_, rfl, fun w' hb' => ?_⟩
      rw [e, ← em]
      exact query_depth b ev sv gv _ _ es gs ws hs des dgs dws dhs w' ((hb'.block b (Array.getElem?_eq_some_iff.1 hblk).1).trans hblk) (row_low (Nat.zero_le _) (row_below hre hb')) (row_low (Nat.zero_le _) (row_below hrg hb')) oe og hlen1 (by omega) ow oh (ae.grow hb') (ag.grow hb') (aw.grow hb') (ah.grow hb') (by omega)
  | none =>
    intro w lo vs his hd
    cases his
    exact .inl ⟨rfl, rfl⟩
  | some _ ih =>
    intro w lo vs his hd
    exact .inr (ih w lo vs his hd)
end Go.Proofs.YtbkeflgafjnefaaGreatDoor
namespace Go.Proofs.YtbkeflgafjnefaaGreatDoor
open Go.RowKit
open Trib
/-- Blocks that hold no bytes stay, but for b. -/
def Kept5 (b : Nat) (w w' : World) : Prop := ∀ k cs T, k ≠ b → T ≠ 5 → w.heap[k]? = some (.cells cs T (0, 0)) → w'.heap[k]? = some (.cells cs T (0, 0))
theorem Kept5.trans {b : Nat} {w1 w2 w3 : World} (h1 : Kept5 b w1 w2) (h2 : Kept5 b w2 w3) : Kept5 b w1 w3 := fun k cs T hk hT h => h2 k cs T hk hT (h1 k cs T hk hT h)
theorem Kept5.refl (b : Nat) (w : World) : Kept5 b w w := fun _ _ _ _ _ h => h
theorem kept5_set (b o : Nat) (w : World) (x : Value) : Kept5 b w (w.setCell ⟨b, o, none⟩ x) := fun k _ _ hk _ h => (Below.heap_setCell _ _ _ k (by show k ≠ b; exact hk)).trans h
theorem kept5_alloc (b : Nat) (w : World) (o : Obj) : Kept5 b w (w.alloc o) := fun k _ _ _ _ h => (Below.heap_alloc w o k (Array.getElem?_eq_some_iff.1 h).1).trans h
theorem kept5_grown {b B n : Nat} {w w' : World} {v : Value} {xs : List Value} (hown : w.ownsRow B 5 1 v n xs) (hg : w.grownBy w' v.ownBlock) : Kept5 b w w' := by
  intro k cs T hk hT h
  refine (hg.block k (Array.getElem?_eq_some_iff.1 h).1 ?_).trans h
  intro e
  rcases hown.2 with ⟨rfl, _⟩ | ⟨g, cap, cur, rfl, _, hgb, _⟩
  · simp [Value.ownBlock] at e
  · simp [Value.ownBlock] at e
    subst e
    rw [h] at hgb
    simp at hgb
    exact hT hgb.2
set_option maxHeartbeats 2000000 in
set_option maxRecDepth 100000 in
theorem copyCheck_any (B b : Nat) (bs : List Value) (w : World) (h : Lib.IsBuilder 151 5 B b bs w) :
    Calls Tryz.prog 135 #[.pointer (some ⟨b, 0, none⟩)] w fun e w' => e = .returned (.tuple #[]) ∧ Lib.BuilderAt 151 5 B b (.pointer (some ⟨b, 0, none⟩)) bs w' ∧ Below B w w' ∧ Kept5 b w w' := by
  obtain ⟨j, hj, hjs⟩ := Option.map_eq_some_iff.1 Tryz.Builder_Extra_169.sizeBuilder
  rcases h with h | h
  · have c0 := h.cell0
    have c1 := h.shape
    have c2 := h.frozen0
    have q1 := Lib.run_to_unsafe w ⟨b, 0, none⟩ Tryz.underlying149 Tryz.underlying336 hj (by rw [hjs]; decide) c1 (Nat.zero_lt_succ 1)
    have q2 := Lib.run_from_unsafe w ⟨b, 0, none⟩ Tryz.underlying336 Tryz.underlying149 hj c1 Tryz.Builder_Extra_169.liesBuilder
    go_enter Tryz.func135, Tryz.ntmps135
    go_wp2
    rw [run_callFunc_extern Tryz.func195 (by kernel_rfl) (by kernel_rfl) (by kernel_rfl) (e := Extern.AbiNoEscape.same) (by kernel_rfl)]
    rw [Lib.run_noEscape]
    simp only [Result.andThen]
    rw [Oper.upon_value]
    go_wp2
    go_end0
    exact ⟨rfl, h.used _, (Below.refl B w).setCell (p := ⟨b, 0, none⟩) h.1 _, kept5_set _ _ _ _⟩
  · have c0 := h.cell0
    have q := Lib.run_neq_ptr_same w ⟨b, 0, none⟩ Tryz.underlying149 hj
    go_enter Tryz.func135, Tryz.ntmps135
    go_wp2
    go_end0
    exact ⟨rfl, h, Below.refl B _, Kept5.refl _ _⟩
theorem infoB : (Tryz.prog.info? 5).map (fun i => (i.zero, i.size, i.bytes)) = some (some (.int .u8 0), 1, 1) := by kernel_rfl
set_option maxHeartbeats 2000000 in
set_option maxRecDepth 100000 in
theorem writeByte_any (B b : Nat) (bs : List Value) (c : Int) (w : World) (h : Lib.IsBuilder 151 5 B b bs w) (hlen : bs.length ≤ 1000000000) (hBw : B ≤ w.heap.size) :
    Calls Tryz.prog 82 #[.pointer (some ⟨b, 0, none⟩), .int .u8 c] w fun e w' => e = .returned .nilIface ∧ Lib.BuilderAt 151 5 B b (.pointer (some ⟨b, 0, none⟩)) (bs ++ [.int .u8 c]) w' ∧ Below B w w' ∧ Kept5 b w w' := by
  obtain ⟨i0, hi, hz0, hz1, hz2⟩ := info_parts infoB
  go_enter Tryz.func82, Tryz.ntmps82
  go_wp2_with (go_at_call 135; refine (copyCheck_any B b bs _ h).mono ?_)
  rintro e w1 ⟨rfl, h1, hb1, hk1⟩
  obtain ⟨hB, v, hbk, hown, hne⟩ := h1
  have z1 := hb1.size
  have c0 : w1.cell? ⟨b, 0, none⟩ = some (.pointer (some ⟨b, 0, none⟩)) := blk_cell hbk (i := 0) rfl
  have c1 : w1.cell? ⟨b, 1, none⟩ = some v := blk_cell hbk (i := 1) rfl
  go_wp2_with (at_builtin; refine wpList_append_own _ rfl _ _ 122 rfl B 5 i0 (.int .u8 0) 1 1 Tryz.underlying122 hi hz0 hz1 hz2 rfl (by decide) _ _ _ rfl (hown.alloc _) ⟨w1.heap.size, 0, none⟩ 1 1 [.int .u8 c] rfl rfl (World.news_of_block (cs := #[.int .u8 c]) (heap_alloc_new w1 _)) (by simp [Value.oneCell']) (by unfold maxLen; omega) (by omega) (by simp; omega) ?_)
  intro v' w2 hown' hgrow _
  have hlt : b < w1.heap.size := (Array.getElem?_eq_some_iff.1 hbk).1
  have hb2 : w2.heap[b]? = some (.cells #[.pointer (some ⟨b, 0, none⟩), v] 151 (0, 0)) := by
    rw [hgrow.block b (by simp; omega) (fun e => hne e.symm), Below.heap_alloc w1 _ b hlt]
    exact hbk
  have d0 : w2.cell? ⟨b, 0, none⟩ = some (.pointer (some ⟨b, 0, none⟩)) := blk_cell hb2 (i := 0) rfl
  have d1 : w2.cell? ⟨b, 1, none⟩ = some v := blk_cell hb2 (i := 1) rfl
  have f1 : w2.frozen? ⟨b, 1, none⟩ = false := blk_free hb2
  obtain ⟨g, cap, rfl⟩ : ∃ g cap, v' = .slice (some ⟨g, 0, none⟩) (bs.length + 1) cap := by
    rcases hown'.2 with ⟨_, h0⟩ | ⟨g, cap, cur, hv, _⟩
    · omega
    · exact ⟨g, cap, hv⟩
  go_wp2
  go_ret
  refine ⟨rfl, ?_, ?_, ?_⟩
  · exact Lib.BuilderAt.put (T := 151) (e := 5) hB hb2 (bs' := bs ++ [.int .u8 c]) (by simpa using hown') Tryz.Builder_Extra_169.neB5
  · exact ((hb1.alloc (by omega) _).grown hgrow (by simp; omega) (fun k hk => (hown.lt k hk).1)).setCell (p := ⟨b, 1, none⟩) hB _
  · exact ((hk1.trans (kept5_alloc _ _ _)).trans (kept5_grown (hown.alloc _) hgrow)).trans (kept5_set _ _ _ _)
set_option maxHeartbeats 2000000 in
set_option maxRecDepth 100000 in
theorem writeString_any (B b : Nat) (bs : List Value) (s : ByteArray) (w : World) (h : Lib.IsBuilder 151 5 B b bs w) (hlen : bs.length + s.size ≤ 1000000000) (hBw : B ≤ w.heap.size) :
    Calls Tryz.prog 83 #[.pointer (some ⟨b, 0, none⟩), .string s] w fun e w' => e = .returned (.tuple #[.int .i64 s.size, .nilIface]) ∧ Lib.BuilderAt 151 5 B b (.pointer (some ⟨b, 0, none⟩)) (bs ++ Lib.strCells s) w' ∧ Below B w w' ∧ Kept5 b w w' := by
  obtain ⟨i0, hi, hz0, hz1, hz2⟩ := info_parts infoB
  go_enter Tryz.func83, Tryz.ntmps83
  go_wp2_with (go_at_call 135; refine (copyCheck_any B b bs _ h).mono ?_)
  rintro e w1 ⟨rfl, h1, hb1, hk1⟩
  obtain ⟨hB, v, hbk, hown, hne⟩ := h1
  have z1 := hb1.size
  have c0 : w1.cell? ⟨b, 0, none⟩ = some (.pointer (some ⟨b, 0, none⟩)) := blk_cell hbk (i := 0) rfl
  have c1 : w1.cell? ⟨b, 1, none⟩ = some v := blk_cell hbk (i := 1) rfl
  go_wp2_with (at_builtin; refine Lib.wpList_append_own_string _ rfl _ _ 122 9 rfl B 5 i0 Tryz.underlying122 Tryz.underlying9 hi hz0 hz1 hz2 _ _ _ rfl hown s rfl (by unfold maxLen; omega) (by omega) (by omega) ?_)
  intro v' w2 hown' hgrow _
  have hlt : b < w1.heap.size := (Array.getElem?_eq_some_iff.1 hbk).1
  have hb2 : w2.heap[b]? = some (.cells #[.pointer (some ⟨b, 0, none⟩), v] 151 (0, 0)) := (hgrow.block b hlt (fun e => hne e.symm)).trans hbk
  have d0 : w2.cell? ⟨b, 0, none⟩ = some (.pointer (some ⟨b, 0, none⟩)) := blk_cell hb2 (i := 0) rfl
  have d1 : w2.cell? ⟨b, 1, none⟩ = some v := blk_cell hb2 (i := 1) rfl
  have f1 : w2.frozen? ⟨b, 1, none⟩ = false := blk_free hb2
  obtain ⟨ao, n', cap, rfl⟩ : ∃ ao n' cap, v' = .slice ao n' cap := by
    rcases hown'.2 with ⟨hv, _⟩ | ⟨g, cap, cur, hv, _⟩
    · exact ⟨_, _, _, hv⟩
    · exact ⟨_, _, _, hv⟩
  go_wp2
  go_ret2
  refine ⟨rfl, ?_, ?_, ?_⟩
  · exact Lib.BuilderAt.put (T := 151) (e := 5) hB hb2 (bs' := bs ++ Lib.strCells s) (by simpa [Lib.strCells_length] using hown') Tryz.Builder_Extra_169.neB5
  · exact (hb1.grown hgrow (by omega) (fun k hk => (hown.lt k hk).1)).setCell (p := ⟨b, 1, none⟩) hB _
  · exact (hk1.trans (kept5_grown hown hgrow)).trans (kept5_set _ _ _ _)
end Go.Proofs.YtbkeflgafjnefaaGreatDoor
namespace Go.Proofs.YtbkeflgafjnefaaGreatDoor
open Go.RowKit
open Trib
set_option maxHeartbeats 8000000 in
theorem blank_any (l r : Nat) (w : World) : Calls Tryz.prog 81 #[.int .i64 (l : Int), .int .i64 (r : Int)] w fun e w' => e = .returned (.bool (blankK l r)) ∧ w = w' := by
  generalize hbk : blankK l r = x
  by_cases h0 : l = 0 ∨ l = 4 ∨ l = 7
  · obtain rfl : x = false := by rw [← hbk]; unfold blankK; rw [if_pos h0]
    clear hbk
    rcases h0 with rfl | rfl | rfl
    all_goals
      go_enter Tryz.func81, Tryz.ntmps81
      go_wp2_with fail
      go_ret
      exact ⟨rfl, rfl⟩
  · obtain ⟨n0, n4, n7⟩ : ¬ (l : Int) = 0 ∧ ¬ (l : Int) = 4 ∧ ¬ (l : Int) = 7 := by omega
    by_cases h1 : 26 ≤ l ∧ l ≤ 29
    · have e : x = !(r == 4) := by rw [← hbk]; unfold blankK; rw [if_neg h0, if_pos h1]
      have h1' : l = 26 ∨ l = 27 ∨ l = 28 ∨ l = 29 := by omega
      clear h1 h0 hbk n0 n4 n7
      by_cases h4 : r = 4
      · subst h4
        obtain rfl : x = false := e
        rcases h1' with rfl | rfl | rfl | rfl
        all_goals
          go_enter Tryz.func81, Tryz.ntmps81
          go_wp2_with fail
          go_ret
          exact ⟨rfl, rfl⟩
      · have h4' : ¬ (r : Int) = 4 := by omega
        obtain rfl : x = true := by rw [e]; simp [h4]
        clear e
        rcases h1' with rfl | rfl | rfl | rfl
        all_goals
          go_enter Tryz.func81, Tryz.ntmps81
          go_wp2_with fail
          go_ret
          exact ⟨by show Ending.returned (.bool ((r : Int) != 4)) = _; rw [bne_iff_ne.2 h4'], rfl⟩
    · have e : x = (!(r == 5) && !(r == 6) && !(r == 7)) := by rw [← hbk]; unfold blankK; rw [if_neg h0, if_neg h1]
      obtain ⟨m1, m2, m3, m4⟩ : ¬ (l : Int) = 26 ∧ ¬ (l : Int) = 27 ∧ ¬ (l : Int) = 28 ∧ ¬ (l : Int) = 29 := by omega
      clear h1 h0 hbk
      by_cases h5 : r = 5 ∨ r = 6 ∨ r = 7
      · obtain rfl : x = false := by rw [e]; rcases h5 with rfl | rfl | rfl <;> rfl
        clear e
        rcases h5 with rfl | rfl | rfl
        all_goals
          go_enter Tryz.func81, Tryz.ntmps81
          go_wp2_with fail
          go_ret
          exact ⟨rfl, rfl⟩
      · obtain ⟨q5, q6, q7⟩ : ¬ (r : Int) = 5 ∧ ¬ (r : Int) = 6 ∧ ¬ (r : Int) = 7 := by omega
        obtain rfl : x = true := by
          rw [e]
          have a5 : (r == 5) = false := by simp; omega
          have a6 : (r == 6) = false := by simp; omega
          have a7 : (r == 7) = false := by simp; omega
          rw [a5, a6, a7]; rfl
        clear e h5
        go_enter Tryz.func81, Tryz.ntmps81
        go_wp2_with fail
        go_ret
        exact ⟨by show Ending.returned (.bool ((r : Int) != 5 && (r : Int) != 6 && (r : Int) != 7)) = _; rw [bne_iff_ne.2 q5, bne_iff_ne.2 q6, bne_iff_ne.2 q7]; rfl, rfl⟩
end Go.Proofs.YtbkeflgafjnefaaGreatDoor
namespace Go.Proofs.YtbkeflgafjnefaaGreatDoor
open Go.RowKit
open Trib
/-- What stands when j tokens have been written. -/
def WInv (ts : List ByteArray) (j k : Nat) (o : List UInt8) : Prop := writtenP ((ts.take j).map (·.data.toList)) = (o, k) ∧ o.length ≤ 1001 * j
theorem WInv.next {ts : List ByteArray} {j k : Nat} {o : List UInt8} (h : WInv ts j k o) (hj : j < ts.length) (hs : ts[j].size ≤ 1000) : WInv ts (j + 1) (kd ts[j]) (o ++ (if blankK k (kd ts[j]) then [32] else []) ++ ts[j].data.toList) := by
  refine ⟨?_, ?_⟩
  · rw [List.take_succ_eq_append_getElem hj, List.map_append, List.map_cons, List.map_nil, writtenP_snoc, h.1]; rfl
  · have h2 := h.2
    have e : ts[j].data.toList.length = ts[j].size := by rw [Array.length_toList]; rfl
    have e2 : (if blankK k (kd ts[j]) then [32] else ([] : List UInt8)).length ≤ 1 := by split <;> simp
    simp only [List.length_append, e]
    omega
theorem WInv.fin {ts : List ByteArray} {j k : Nat} {o : List UInt8} (h : WInv ts j k o) (hj : ¬ j < ts.length) : (writtenP (ts.map (·.data.toList))).1 = o := by
  have := h.1
  rw [List.take_of_length_le (by omega)] at this
  rw [this]
theorem builder_kept {B b : Nat} {bs : List Value} {w w' : World} (h : Lib.IsBuilder 151 5 B b bs w) (hb : Below w.heap.size w w') : Lib.IsBuilder 151 5 B b bs w' := by
  rcases h with ⟨hB, v, h1, h2, h3⟩ | ⟨hB, v, h1, h2, h3⟩
  · exact .inl ⟨hB, v, (hb.block b (Array.getElem?_eq_some_iff.1 h1).1).trans h1, row_below h2 hb, h3⟩
  · exact .inr ⟨hB, v, (hb.block b (Array.getElem?_eq_some_iff.1 h1).1).trans h1, row_below h2 hb, h3⟩
set_option maxHeartbeats 8000000 in
set_option maxRecDepth 100000 in
theorem write_any (v : Value) (ts : List ByteArray) (w : World) (hrow : w.ownsRow 0 154 2 v ts.length (tokCells ts)) (hl : ts.length ≤ 1000) (hs : ∀ t ∈ ts, t.size ≤ 1000) :
    Calls Tryz.prog 44 #[v] w fun e w' => e = .returned (.string ⟨(writtenP (ts.map (·.data.toList))).1.toArray⟩) ∧ Below w.heap.size w w' := by
  obtain ⟨a, cap, rfl⟩ := rd_len hrow
  have HS := hide hs
  clear hs
  go_enter Tryz.func44, Tryz.ntmps44
  go_wp2_with fail
  go_loopg [4, 9] (ts.length + 1) (fun q lv i wr => ∃ (j k : Nat) (o : List UInt8), j ≤ ts.length ∧ lv = .int .i64 (k : Int) ∧ i = .int .i64 (j : Int) ∧ WInv ts j k o ∧ Lib.IsBuilder 151 5 w.heap.size w.heap.size (Lib.byteCells o) wr ∧ Below w.heap.size w wr ∧ ts.length - j < q)
  case atStart => exact ⟨0, 0, [], Nat.zero_le _, rfl, rfl, ⟨rfl, Nat.le_refl _⟩, .inl ⟨Nat.le_refl _, .slice none 0 0, heap_alloc_new w _, ⟨rfl, .inl ⟨rfl, rfl⟩⟩, by simp [Value.ownBlock]⟩, (Below.refl _ w).alloc (Nat.le_refl _) _, by omega⟩
  case round =>
    obtain ⟨j, k, o, hj, rfl, rfl, hi, hB, hb, hq⟩ := hrel
    by_cases hlt : j < ts.length
    · have hlt' : (j : Int) < (ts.length : Int) := by omega
      obtain ⟨g, cap', hv, hc1, hc2⟩ := rd_cells (row_below hrow hb) j hlt
      obtain ⟨rfl, rfl⟩ : a = some ⟨g, 0, none⟩ ∧ cap = cap' := by simpa using hv
      clear hv
      have hsz := HS.out _ (List.getElem_mem hlt)
      have HI := hide hi
      have HN := hide (hi.next hlt hsz)
      clear hi
      have HQ := hide hq
      clear hq
      have hwr : IntKind.i64.wrap ((j : Int) + 1) = (j : Int) + 1 := by rw [IntKind.wrap_i64]; omega
      generalize ts[j] = t at *
      go_upto_region 6 with fail
      have hblt : w.heap.size < wr.heap.size := by rcases hB with h | h <;> exact h.lt
      have hba := (Below.refl wr.heap.size wr).alloc (Nat.le_refl _) (.cells #[.int .i64 (kd t : Int), .string t] 154)
      have hBW := builder_kept hB hba
      have hbW := hb.trans (hba.mono hb.size)
      have hW := heap_alloc_new wr (.cells #[.int .i64 (kd t : Int), .string t] 154)
      generalize hG : wr.heap.size = G at *
      generalize wr.alloc (.cells #[.int .i64 (kd t : Int), .string t] 154) = W at *
      clear hB hba hc1 hc2 hG
      have zW := hbW.size
      have hol := HI.out.2
      have HBL := hide (blank_any k (kd t) W)
      have HWS := hide (fun (o' : List UInt8) (w2 : World) (h1 : Lib.IsBuilder 151 5 w.heap.size w.heap.size (Lib.byteCells o') w2) (h2 : (Lib.byteCells o').length + t.size ≤ 1000000000) (h3 : w.heap.size ≤ w2.heap.size) => writeString_any w.heap.size w.heap.size (Lib.byteCells o') t w2 h1 h2 h3)
      have hx0 : W.cell? ⟨G, 0, none⟩ = some (.int .i64 (kd t : Int)) := blk_cell hW (i := 0) rfl
      have hx1 : W.cell? ⟨G, 1, none⟩ = some (.string t) := blk_cell hW (i := 1) rfl
      generalize kd t = kt at *
      generalize blankK k kt = bl at *
      cases bl
      · go_upto_region 9 with (first | (go_at_call 81; refine HBL.out.mono ?_; rintro e w' ⟨rfl, rfl⟩) | (go_at_call 83; refine (HWS.out o _ hBW (by rw [Lib.byteCells_length]; omega) zW).mono ?_; rintro e w3 ⟨rfl, hB3, hb3, hk3⟩))
        have hW3 := hk3 G _ _ (by omega) (by decide) hW
        have hy0 : w3.cell? ⟨G, 0, none⟩ = some (.int .i64 (kt : Int)) := blk_cell hW3 (i := 0) rfl
        clear hx0 hx1
        go_wp2_with fail
        have hq := HQ.out
        go_roundg (gk - 1)
        case measure => omega
        case rel => exact ⟨j + 1, kt, _, by omega, rfl, by go_num, HN.out, .inr (by rw [Lib.strCells_eq] at hB3; simpa [Lib.byteCells] using hB3), hbW.trans hb3, by omega⟩
      · go_upto_region 8 with (first | (go_at_call 81; refine HBL.out.mono ?_; rintro e w' ⟨rfl, rfl⟩) | (go_at_call 82; refine (writeByte_any w.heap.size w.heap.size (Lib.byteCells o) 32 _ hBW (by rw [Lib.byteCells_length]; omega) zW).mono ?_; rintro e w2 ⟨rfl, hB2, hb2, hk2⟩))
        have hW2 := hk2 G _ _ (by omega) (by decide) hW
        have hB2' : Lib.IsBuilder 151 5 w.heap.size w.heap.size (Lib.byteCells (o ++ [32])) w2 := .inr (by simpa [Lib.byteCells] using hB2)
        have hz1 : w2.cell? ⟨G, 1, none⟩ = some (.string t) := blk_cell hW2 (i := 1) rfl
        have z2 := (hbW.trans hb2).size
        clear hx0 hx1 hB2
        go_upto_region 9 with (go_at_call 83; refine (HWS.out (o ++ [32]) _ hB2' (by rw [Lib.byteCells_length, List.length_append]; simp; omega) z2).mono ?_; rintro e w3 ⟨rfl, hB3, hb3, hk3⟩)
        have hW3 := hk3 G _ _ (by omega) (by decide) hW2
        have hy0 : w3.cell? ⟨G, 0, none⟩ = some (.int .i64 (kt : Int)) := blk_cell hW3 (i := 0) rfl
        clear hz1
        go_wp2_with fail
        have hq := HQ.out
        go_roundg (gk - 1)
        case measure => omega
        case rel => exact ⟨j + 1, kt, _, by omega, rfl, by go_num, HN.out, .inr (by rw [Lib.strCells_eq] at hB3; simpa [Lib.byteCells] using hB3), hbW.trans (hb2.trans hb3), by omega⟩
    · have hlt' : (ts.length : Int) ≤ (j : Int) := by omega
      have hfin := hide (hi.fin hlt)
      clear hi hq
      go_wp2_with (go_at_call 84; refine (Tryz.Builder_String_any w.heap.size w.heap.size o _ hB hb.size).mono ?_; rintro e w3 ⟨rfl, hb3⟩)
      go_ret
      exact ⟨by rw [hfin.out]; rfl, hb.trans hb3⟩
end Go.Proofs.YtbkeflgafjnefaaGreatDoor
namespace Go.Proofs.YtbkeflgafjnefaaGreatDoor
open Go.RowKit
open Trib
theorem sm_of_tokens {s : ByteArray} {ts : List ByteArray} (hs : s.size ≤ 400) (hl : ts.length ≤ s.size) (h : tokensOf s = some (ts.map (·.data.toList))) : Sm ts := by
  have hf := tkRun_fine _ _ _ _ h
  refine ⟨by omega, fun t ht => ?_⟩
  have := (hf _ (List.mem_map_of_mem ht)).1
  rw [len_eq] at this
  omega
theorem Is.drew {w : World} {lo : Nat} {t : Tr} {vs : List Value} (h : Is w lo t vs) : Is w.drew lo t vs := Is.kept (w := w) (w' := w.drew) (lo := lo) (fun _ _ _ => rfl) h
def noSt : Value := .agg #[.int .i64 0, .int .i64 0, .pointer none]
/-- What the program's reading of a whole text answers. -/
def TReadPost (s : ByteArray) (w : World) (e : Ending) (w' : World) : Prop :=
  (∃ (v : Value) (ts : List ByteArray) (t : Tr) (sp : Int) (x : Nat), s.size ≤ 400 ∧ tokensOf s = some (ts.map (·.data.toList)) ∧ Kinded ts ∧ Sm ts ∧ stT ts = some ([], t) ∧
    e = .returned (.tuple #[v, .agg #[.int .i64 (formT ts : Int), .int .i64 sp, .pointer (some ⟨x, 0, none⟩)], .bool true]) ∧ w'.ownsRow w.heap.size 154 2 v ts.length (tokCells ts) ∧ Is w' w.heap.size t [.pointer (some ⟨x, 0, none⟩)] ∧ Below w.heap.size w w') ∨
  ((400 < s.size ∨ tokensOf s = none ∨ ∃ ts : List ByteArray, tokensOf s = some (ts.map (·.data.toList)) ∧ ∀ t, stT ts ≠ some ([], t)) ∧ (∃ v, e = .returned (.tuple #[v, noSt, .bool false])) ∧ Below w.heap.size w w')
set_option maxHeartbeats 4000000 in
set_option maxRecDepth 100000 in
theorem tread_any (s : ByteArray) (w : World) (hg : Glob w) : Calls Tryz.prog 42 #[.string s] w (TReadPost s w) := by
  have hbig := hg.big
  have hres0 := heap_alloc_new w (.cells #[.int .i64 0, .int .i64 0, .pointer none] 101)
  have hbel0 : Below w.heap.size w (w.alloc (.cells #[.int .i64 0, .int .i64 0, .pointer none] 101)) := (Below.refl _ _).alloc (Nat.le_refl _) _
  by_cases h4 : 400 < s.size
  · have h4' : (400 : Int) < (s.size : Int) := by omega
    go_enter Tryz.func42, Tryz.ntmps42
    go_wp2_with fail
    refine bodyPost_ret (v := .tuple #[.slice none 0 0, noSt, .bool false]) (by simp [results, Tryz.results42, go_sem, noSt]) rfl (Or.inr ⟨Or.inl h4, ⟨_, rfl⟩, hbel0⟩)
  · have h4' : (s.size : Int) ≤ 400 := by omega
    go_enter Tryz.func42, Tryz.ntmps42
    go_wp2_with fail
    have hG0 : Glob (w.alloc (.cells #[.int .i64 0, .int .i64 0, .pointer none] 101)) := hg.below hbel0 hbig
    have z0 : (w.alloc (.cells #[.int .i64 0, .int .i64 0, .pointer none] 101)).heap.size = w.heap.size + 1 := by simp
    generalize w.alloc (.cells #[.int .i64 0, .int .i64 0, .pointer none] 101) = W0 at *
    refine (Clone_any s W0 (by omega)).mono ?_
    rintro e wc ⟨rfl, hbc⟩
    have hres0 := (hbc.block w.heap.size (by omega)).trans hres0
    have hbel0 : Below w.heap.size w wc := hbel0.trans (hbc.mono (by omega))
    have zc : w.heap.size + 1 ≤ wc.heap.size := by have := hbc.size; omega
    have hG0 : Glob wc := hg.below hbel0 hbig
    clear z0 hbc
    go_wp2_with fail
    refine (Scan_any s wc (by omega) hG0).mono ?_
    rintro e w1 (⟨v, ts, hts, hkd, hlen, rfl, hrow1, hb1⟩ | ⟨hno, rfl, hb1⟩)
    · have z1 := hb1.size
      have hrow1 := row_low zc hrow1
      have hb1 := hb1.mono zc
      have hres1 := (hb1.block w.heap.size (by omega)).trans hres0
      have hb1' : Below w.heap.size w w1 := hbel0.trans (hb1.mono (by omega))
      have hsm := sm_of_tokens (by omega) hlen hts
      have HR := hide (PRead_any v ts w1 (row_low (Nat.zero_le _) hrow1) (hg.below hb1' hbig) hsm hkd)
      have HTS := hide hts
      have HSM := hide hsm
      have HKD := hide hkd
      clear hts hsm hkd
      obtain ⟨va, vcap, rfl⟩ := row_shape hrow1
      go_wp2_with (go_at_call 78; refine HR.out.mono ?_)
      rintro e w2 (⟨t, sp, x, hst, rfl, hI, hb2⟩ | ⟨hno, rfl, hb2⟩)
      · have z2 := hb2.size
        have hres2 := (hb2.block w.heap.size (by omega)).trans hres1
        have hb2' : Below w.heap.size w w2 := hb1'.trans (hb2.mono (by omega))
        have hrow2 := row_below hrow1 hb2
        have HST := hide hst
        clear hst
        have hres3 := blk_alloc hres2 (.cells #[.int .i64 (formT ts : Int), .int .i64 sp, .pointer (some ⟨x, 0, none⟩)] 101)
        have hloc := heap_alloc_new w2 (.cells #[.int .i64 (formT ts : Int), .int .i64 sp, .pointer (some ⟨x, 0, none⟩)] 101)
        have hb3 : Below w.heap.size w (w2.alloc (.cells #[.int .i64 (formT ts : Int), .int .i64 sp, .pointer (some ⟨x, 0, none⟩)] 101)) := hb2'.alloc (by omega) _
        have hrow3 : (w2.alloc (.cells #[.int .i64 (formT ts : Int), .int .i64 sp, .pointer (some ⟨x, 0, none⟩)] 101)).ownsRow (w.heap.size + 1) 154 2 (.slice va ts.length vcap) ts.length (tokCells ts) := hrow2.alloc _
        have hI3 : Is (w2.alloc (.cells #[.int .i64 (formT ts : Int), .int .i64 sp, .pointer (some ⟨x, 0, none⟩)] 101)) (w.heap.size + 1) t [.pointer (some ⟨x, 0, none⟩)] := (hI.low (by omega)).kept (stays_alloc _ _ _)
        clear hbel0 hb1 hrow1 hb1' hI hrow2
        go_upto_region 7 with fail
        generalize w2.alloc (.cells #[.int .i64 (formT ts : Int), .int .i64 sp, .pointer (some ⟨x, 0, none⟩)] 101) = W3 at *
        have l0 := blk_cell hloc (i := 0) rfl
        have l1 := blk_cell hloc (i := 1) rfl
        have l2 := blk_cell hloc (i := 2) rfl
        have r0 := blk_cell hres3 (i := 0) rfl
        have r1 := blk_cell hres3 (i := 1) rfl
        have r2 := blk_cell hres3 (i := 2) rfl
        have g0 := blk_free (i := 0) hres3
        have g1 := blk_free (i := 1) hres3
        have g2 := blk_free (i := 2) hres3
        go_region_law (fail)
        all_goals
          go_wp2_with fail
          refine bodyPost_ret (v := .tuple #[.slice va ts.length vcap, .agg #[.int .i64 (formT ts : Int), .int .i64 sp, .pointer (some ⟨x, 0, none⟩)], .bool true]) (by simp [results, Tryz.results42, go_sem, *]) rfl (Or.inl ⟨_, ts, t, sp, x, by omega, HTS.out, HKD.out, HSM.out, HST.out, rfl, ?_, ?_, ?_⟩)
          · exact row_low (by omega) ((stays_set _ _ (show w.heap.size < w.heap.size + 1 by omega)).row ((stays_set _ _ (show w.heap.size < w.heap.size + 1 by omega)).row ((stays_set _ _ (show w.heap.size < w.heap.size + 1 by omega)).row hrow3.drew)))
          · exact ((((hI3.kept (stays_set _ _ (show w.heap.size < w.heap.size + 1 by omega))).kept (stays_set _ _ (show w.heap.size < w.heap.size + 1 by omega))).kept (stays_set _ _ (show w.heap.size < w.heap.size + 1 by omega))).low (Nat.le_succ _)).drew
          · exact ((hb3.drew.setCell (Nat.le_refl _) _).setCell (Nat.le_refl _) _).setCell (Nat.le_refl _) _
      · have z2 := hb2.size
        have hres2 := (hb2.block w.heap.size (by omega)).trans hres1
        have hb2' : Below w.heap.size w w2 := hb1'.trans (hb2.mono (by omega))
        have HNO := hide hno
        clear hno
        have hres3 := blk_alloc hres2 (.cells #[.int .i64 0, .int .i64 0, .pointer none] 101)
        have hloc := heap_alloc_new w2 (.cells #[.int .i64 0, .int .i64 0, .pointer none] 101)
        have hb3 : Below w.heap.size w (w2.alloc (.cells #[.int .i64 0, .int .i64 0, .pointer none] 101)) := hb2'.alloc (by omega) _
        clear hbel0 hb1 hrow1 hb1'
        go_upto_region 7 with fail
        generalize w2.alloc (.cells #[.int .i64 0, .int .i64 0, .pointer none] 101) = W3 at *
        have l0 := blk_cell hloc (i := 0) rfl
        have l1 := blk_cell hloc (i := 1) rfl
        have l2 := blk_cell hloc (i := 2) rfl
        have r0 := blk_cell hres3 (i := 0) rfl
        have r1 := blk_cell hres3 (i := 1) rfl
        have r2 := blk_cell hres3 (i := 2) rfl
        have g0 := blk_free (i := 0) hres3
        have g1 := blk_free (i := 1) hres3
        have g2 := blk_free (i := 2) hres3
        go_region_law (fail)
        all_goals
          go_wp2_with fail
          refine bodyPost_ret (v := .tuple #[.slice va ts.length vcap, noSt, .bool false]) (by simp [results, Tryz.results42, go_sem, noSt, *]) rfl (Or.inr ⟨Or.inr (Or.inr ⟨ts, HTS.out, HNO.out⟩), ⟨_, rfl⟩, ?_⟩)
          exact ((hb3.drew.setCell (Nat.le_refl _) _).setCell (Nat.le_refl _) _).setCell (Nat.le_refl _) _
    · have z1 := hb1.size
      have hres1 := (hb1.block w.heap.size (by omega)).trans hres0
      have hb1' : Below w.heap.size w w1 := hbel0.trans (hb1.mono (by omega))
      have HNO := hide hno
      clear hno
      have r0 := blk_cell hres1 (i := 0) rfl
      have r1 := blk_cell hres1 (i := 1) rfl
      have r2 := blk_cell hres1 (i := 2) rfl
      have g0 := blk_free (i := 0) hres1
      have g1 := blk_free (i := 1) hres1
      have g2 := blk_free (i := 2) hres1
      go_wp2_with fail
      refine bodyPost_ret (v := .tuple #[.slice none 0 0, noSt, .bool false]) (by simp [results, Tryz.results42, go_sem, noSt, *]) rfl (Or.inr ⟨Or.inr (Or.inl HNO.out), ⟨_, rfl⟩, ?_⟩)
      exact ((hb1'.setCell (Nat.le_refl _) _).setCell (Nat.le_refl _) _).setCell (Nat.le_refl _) _
end Go.Proofs.YtbkeflgafjnefaaGreatDoor
namespace Go.Proofs.YtbkeflgafjnefaaGreatDoor
open Go.RowKit
open Trib
theorem qA_wf {l : List ByteArray} {x : List ByteArray × Tr} (hl : l.length ≤ 500) (h : qA l = some x) : Wf 4500 2 x.2 ∧ dep x.2 ≤ 4500 := by
  unfold qA at h
  exact ⟨(CT_wf 4500 _ (by omega)).2.2.1 _ _ h (by omega), Nat.le_trans (CT_dep _ _ _ _ h) (by omega)⟩
theorem st_wf {ts : List ByteArray} {x : List ByteArray × Tr} (hl : ts.length ≤ 400) (h : stT ts = some x) : Wf 4500 2 x.2 ∧ dep x.2 ≤ 4500 := by
  unfold stT at h
  have ht : ts.tail.length ≤ ts.length := tail_short ts
  split at h
  · obtain ⟨a, ha, h⟩ := Option.bind_eq_some_iff.1 h
    have := takeT_short ha
    exact qA_wf (by omega) h
  split at h
  · exact qA_wf (by omega) h
  · exact qA_wf (by omega) h
theorem tkRun_len {s : ByteArray} : ∀ (f k : Nat) (last : List UInt8) (l : List (List UInt8)), k ≤ s.size → tkRun s f k last = some l → l.length ≤ s.size - k := by
  intro f
  induction f with
  | zero => intro k last l _ h; cases h
  | succ f ih =>
    intro k last l hk0 h
    rw [tkRun] at h
    by_cases hk : k < s.size
    · rw [if_pos hk] at h
      cases hs : tkStep s k last with
      | none => rw [hs] at h; cases h
      | some x =>
        obtain ⟨o, k'⟩ := x
        have hlt := tkStep_lt hk hs
        rw [hs] at h
        cases o with
        | none => have := ih _ _ _ hlt.2 h; have h1 := hlt.1; have h2 := hlt.2; simp only at h1 h2; omega
        | some t0 =>
          simp only [Option.map_eq_some_iff] at h
          obtain ⟨l', hl', rfl⟩ := h
          have := ih _ _ _ hlt.2 hl'
          have h1 := hlt.1
          have h2 := hlt.2
          simp only at h1 h2 this
          rw [List.length_cons]
          omega
    · rw [if_neg hk] at h
      obtain rfl := Option.some.inj h
      exact Nat.zero_le _
theorem tokens_len {s : ByteArray} {ts : List ByteArray} (h : tokensOf s = some (ts.map (·.data.toList))) : ts.length ≤ s.size := by
  have := tkRun_len _ _ _ _ (Nat.zero_le _) h
  simpa using this
/-- What the program's Print answers. -/
def TPrintPost (s : ByteArray) (w : World) (e : Ending) (w' : World) : Prop :=
  ((∃ (ts : List ByteArray) (t : Tr), s.size ≤ 400 ∧ tokensOf s = some (ts.map (·.data.toList)) ∧ Kinded ts ∧ stT ts = some ([], t) ∧
    (6 < dep t ∧ e = .returned (.tuple #[.string ⟨#[]⟩, .int .i64 2]) ∨ dep t ≤ 6 ∧ e = .returned (.tuple #[.string ⟨(writtenP (ts.map (·.data.toList))).1.toArray⟩, .int .i64 0]))) ∨
  (400 < s.size ∨ tokensOf s = none ∨ ∃ ts : List ByteArray, tokensOf s = some (ts.map (·.data.toList)) ∧ ∀ t, stT ts ≠ some ([], t)) ∧ e = .returned (.tuple #[.string ⟨#[]⟩, .int .i64 1])) ∧ Below w.heap.size w w'
set_option maxHeartbeats 4000000 in
set_option maxRecDepth 100000 in
theorem tprint_any (s : ByteArray) (w : World) (hg : Glob w) : Calls Tryz.prog 17 #[.string s] w (TPrintPost s w) := by
  go_enter Tryz.func17, Tryz.ntmps17
  go_wp2_with fail
  refine (tread_any s w hg).mono ?_
  rintro e w1 (⟨v, ts, t, sp, x, hs4, hts, hkd, hsm, hst, rfl, hrow1, hI, hb1⟩ | ⟨hno, ⟨v, rfl⟩, hb1⟩)
  · obtain ⟨hwf, hdp⟩ := st_wf (Nat.le_trans (by have := hrow1; exact tokens_len hts) hs4) hst
    obtain ⟨k, hk, hdq⟩ := depth_ok (by omega) hwf w1 w.heap.size _ hI (by omega)
    obtain rfl : (⟨x, 0, none⟩ : Addr) = k := by simpa using hk
    have hba : Below w1.heap.size w1 (w1.alloc (.cells #[.int .i64 (formT ts : Int), .int .i64 sp, .pointer (some ⟨x, 0, none⟩)] 101)) := (Below.refl _ _).alloc (Nat.le_refl _) _
    have hdc := hdq _ hba
    have hloc := heap_alloc_new w1 (.cells #[.int .i64 (formT ts : Int), .int .i64 sp, .pointer (some ⟨x, 0, none⟩)] 101)
    have hrow2 := row_below hrow1 hba
    have z1 := hb1.size
    have hb2 := hb1.trans (hba.mono z1)
    have HD := hide hdc
    have HTS := hide hts
    have HKD := hide hkd
    have HST := hide hst
    have HSM := hide hsm
    clear hdc hdq hk hwf hts hkd hst hsm hrow1 hI hb1 hba
    obtain ⟨va, vcap, rfl⟩ := row_shape hrow2
    generalize hde : dep t = d at *
    have HDE := hide hde
    clear hde
    go_upto_region 4 with fail
    generalize w1.alloc (.cells #[.int .i64 (formT ts : Int), .int .i64 sp, .pointer (some ⟨x, 0, none⟩)] 101) = W at *
    have l2 : W.cell? ⟨w1.heap.size, 2, none⟩ = some (.pointer (some ⟨x, 0, none⟩)) := blk_cell hloc (i := 2) rfl
    by_cases h6 : 6 < d
    · have h6' : (6 : Int) < (d : Int) := by omega
      go_wp2_with (go_at_call 43; refine HD.out.mono ?_; rintro e w3 ⟨rfl, hb3⟩)
      go_ret2
      exact ⟨Or.inl ⟨ts, t, hs4, HTS.out, HKD.out, HST.out, Or.inl ⟨by rw [HDE.out]; exact h6, rfl⟩⟩, hb2.trans (hb3.mono hb2.size)⟩
    · have h6' : (d : Int) ≤ 6 := by omega
      go_wp2_with (first | (go_at_call 43; refine HD.out.mono ?_; rintro e w3 ⟨rfl, hb3⟩) | (go_at_call 44; refine (write_any _ ts _ (row_low (Nat.zero_le _) (row_below hrow2 hb3)) HSM.out.1 HSM.out.2).mono ?_; rintro e w4 ⟨rfl, hb4⟩))
      go_ret2
      exact ⟨Or.inl ⟨ts, t, hs4, HTS.out, HKD.out, HST.out, Or.inr ⟨by rw [HDE.out]; omega, rfl⟩⟩, (hb2.trans (hb3.mono hb2.size)).trans (hb4.mono (Nat.le_trans hb2.size hb3.size))⟩
  · have HNO := hide hno
    clear hno
    have z1 := hb1.size
    unfold noSt
    go_wp2_with fail
    go_ret2
    exact ⟨Or.inr ⟨HNO.out, rfl⟩, hb1.alloc z1 _⟩
end Go.Proofs.YtbkeflgafjnefaaGreatDoor
