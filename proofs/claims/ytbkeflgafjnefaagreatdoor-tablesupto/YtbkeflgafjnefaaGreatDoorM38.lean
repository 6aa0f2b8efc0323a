/- Towards the law of tables: L1, L2, L3. -/
import Derived.Test.YtbkeflgafjnefaaGreatDoorM29
import Derived.Test.YtbkeflgafjnefaaGreatDoorM37
import Derived.Deep.RegionHeld3
namespace Go.Proofs.YtbkeflgafjnefaaGreatDoor
open Go.RowKit
open Trib
set_option maxHeartbeats 1000000 in
theorem num_any (n : Int) (w : World) : Calls Tryz.prog 108 #[.int .i64 n] w fun e w' => e = .returned (.int .i64 n) ∧ w = w' := by
  go_enter Tryz.func108, Tryz.ntmps108
  go_wp2
  go_ret
  exact ⟨rfl, rfl⟩
/-- Which of n things a raw number speaks of. -/
def pickN (c : Int) (n : Nat) : Nat := ((if c < 0 then -(c + 1) else c) % (n : Int)).toNat
theorem pickN_eq {c : Int} {n : Nat} (hn : 0 < n) : ((if c < 0 then -(c + 1) else c) % (n : Int)) = (pickN c n : Int) ∧ pickN c n < n := by
  unfold pickN
  generalize (if c < 0 then -(c + 1) else c) = a
  have h1 := Int.emod_nonneg a (b := (n : Int)) (by omega)
  have h2 := Int.emod_lt_of_pos a (show (0 : Int) < (n : Int) by omega)
  omega
set_option maxHeartbeats 4000000 in
theorem pick_any (c : Int) (n : Nat) (w : World) (h0 : -9223372036854775808 ≤ c) (h1 : c ≤ 9223372036854775807) (hn : 0 < n) (hn1 : n ≤ 2000000) : Calls Tryz.prog 61 #[.int .i64 c, .int .i64 (n : Int)] w fun e w' => e = .returned (.int .i64 (pickN c n : Int)) ∧ w = w' := by
  have hnz : ((n : Int) == 0) = false := beq_eq_false_iff_ne.2 (by omega)
  have hn0 : (0 : Int) < (n : Int) := by omega
  have hp := (pickN_eq (c := c) hn).1
  by_cases hc : c < 0
  · have e1 : IntKind.i64.wrap (c + 1) = c + 1 := by rw [IntKind.wrap_i64]; omega
    have e2 : IntKind.i64.wrap (-(c + 1)) = -(c + 1) := by rw [IntKind.wrap_i64]; omega
    rw [if_pos hc] at hp
    obtain ⟨a, ha, hca⟩ : ∃ a : Int, 0 ≤ a ∧ -(c + 1) = a := ⟨_, by omega, rfl⟩
    rw [hca] at hp
    have HE := hide hp
    have ha1 : a ≤ 9223372036854775807 := by omega
    generalize pickN c n = k at *
    clear hp
    go_enter Tryz.func61, Tryz.ntmps61
    go_wp2
    go_ret
    exact ⟨congrArg (fun i => Ending.returned (.int .i64 i)) HE.out, rfl⟩
  · have hc0 : 0 ≤ c := by omega
    rw [if_neg hc] at hp
    have HE := hide hp
    generalize pickN c n = k at *
    clear hp hc
    go_enter Tryz.func61, Tryz.ntmps61
    go_wp2
    go_ret
    exact ⟨congrArg (fun i => Ending.returned (.int .i64 i)) HE.out, rfl⟩
set_option maxHeartbeats 4000000 in
theorem lprint_any (s : ByteArray) (w : World) (hg : Glob w) (hs : s.size ≤ 2000000) : Calls Tryz.prog 60 #[.string s] w fun e w' => e = .returned (.bool true) ∧ Below w.heap.size w w' := by
  have H1 := hide ((tprint_any s w hg).mono (fun e w' h => print_prog h))
  have H2 : Hid (∀ w', Calls Tryz.prog 107 #[.string s] w' fun e w2 => e = .returned (printV s) ∧ Below w'.heap.size w' w2) := hide (fun w' => (Print_any s w' (by unfold maxLen; omega)).mono (fun e w2 h => print_ref h))
  unfold printV at H1 H2
  generalize printB s = p at *
  generalize (readErr s : Int) = r at *
  have H3 := hide (num_any r)
  clear hg
  go_enter Tryz.func60, Tryz.ntmps60
  go_wp2_with (first | (go_at_call 17; refine H1.out.mono ?_; rintro e w1 ⟨rfl, hb1⟩) | (go_at_call 107; refine (H2.out w1).mono ?_; rintro e w2 ⟨rfl, hb2⟩) | (go_at_call 108; refine (H3.out w2).mono ?_; rintro e w3 ⟨rfl, rfl⟩))
  go_ret
  exact ⟨rfl, hb1.trans (hb2.mono hb1.size)⟩
set_option maxHeartbeats 4000000 in
theorem still_any (b : Nat) (p n : Value) (w : World) (h : w.heap[b]? = some (.cells #[p, n, .slice none 0 0] 78 (0, 0))) : Calls Tryz.prog 36 #[.pointer (some ⟨b, 1, none⟩)] w fun e w' => e = .returned (.bool true) ∧ w = w' := by
  have c2 : w.cell? ⟨b, 2, none⟩ = some (.slice none 0 0) := blkCell h (i := 2) rfl
  clear h
  go_enter Tryz.func36, Tryz.ntmps36
  go_wp2_with fail
  refine wp_loop_rounds 1 ?_
  rw [rounds_succ]
  go_wp2_with fail
  go_ret
  exact ⟨rfl, rfl⟩
end Go.Proofs.YtbkeflgafjnefaaGreatDoor
namespace Go.Proofs.YtbkeflgafjnefaaGreatDoor
open Go.RowKit
open Trib
def cut (F : Nat → Prop) (w : World) (k : Nat) : Prop := F k ∧ k < w.heap.size
def nilV : Value := .slice none 0 0
/-- An engine and the document's, side by side. -/
def PairC (F : Nat → Prop) (c : Nat → Nat) (w : World) (b x y : Nat) (t : Bool) (s : Value) (g g2 : Eng) : Prop :=
  Blk (colr F c 0) w b #[.pointer (some ⟨x, 0, none⟩), .pointer (some ⟨y, 0, none⟩), .bool t, s] 84 ∧ EngAt (colr F c 1) w x ex0 g ∧ REngAt (colr F c 2) w y (.slice none 0 0) (.slice none 0 0) g2
def PairAt (F : Nat → Prop) (w : World) (b : Nat) (g : Eng) : Prop := ∃ c x y t s, PairC F c w b x y t s g g
theorem PairC.move {F F' : Nat → Prop} {c : Nat → Nat} {w w' : World} {b x y : Nat} {t : Bool} {s : Value} {g g2 : Eng} (h : PairC F c w b x y t s g g2) (m : Mov F F' w w') : PairC F' c w' b x y t s g g2 :=
  ⟨h.1.move (colr_move m c 0), h.2.1.move (colr_move m c 1), h.2.2.move (colr_move m c 2)⟩
theorem PairAt.move {F F' : Nat → Prop} {w w' : World} {b : Nat} {g : Eng} (h : PairAt F w b g) (m : Mov F F' w w') : PairAt F' w' b g := by
  obtain ⟨c, x, y, t, s, h⟩ := h
  exact ⟨c, x, y, t, s, h.move m⟩
theorem PairC.left {F : Nat → Prop} {c : Nat → Nat} {w w1 : World} {b x y : Nat} {t : Bool} {s : Value} {g g2 g' : Eng} (h : PairC F c w b x y t s g g2) (h1 : EngAt (Gro (colr F c 1) w) w1 x ex0 g') (hs : Stp (colr F c 1) w w1) : PairC (Gro F w) (cNew c w 1) w1 b x y t s g' g2 ∧ Stp F w w1 :=
  ⟨⟨h.1.move (recol_other hs (by decide)), h1.move (Mov.to (fun _ _ hk => recol_same hk)), h.2.2.move (recol_other hs (by decide))⟩, hs.mono (fun _ _ h => h.1)⟩
theorem PairC.right {F : Nat → Prop} {c : Nat → Nat} {w w1 : World} {b x y : Nat} {t : Bool} {s : Value} {g g2 g' : Eng} (h : PairC F c w b x y t s g g2) (h1 : REngAt (Gro (colr F c 2) w) w1 y (.slice none 0 0) (.slice none 0 0) g') (hs : Stp (colr F c 2) w w1) : PairC (Gro F w) (cNew c w 2) w1 b x y t s g g' ∧ Stp F w w1 :=
  ⟨⟨h.1.move (recol_other hs (by decide)), h.2.1.move (recol_other hs (by decide)), h1.move (Mov.to (fun _ _ hk => recol_same hk))⟩, hs.mono (fun _ _ h => h.1)⟩
/-- Behind both steps: the pair where it stood. -/
theorem pair_end {F : Nat → Prop} {w W w1 w2 : World} {b x y : Nat} {t : Bool} {s : Value} {g : Eng} {c : Nat → Nat} (hW : Below w.heap.size w W) (h : PairC (Gro (Gro (cut F w) W) w1) c w2 b x y t s g g) (hs1 : Stp (cut F w) W w1) (hs2 : Stp (Gro (cut F w) W) w1 w2) : PairAt (Gro F w) w2 b g ∧ Stp F w w2 := by
  have hz := hW.size
  have up : ∀ k, Gro (cut F w) W k → Gro F w k := fun k hk => by
    rcases hk with ⟨_, h1, h2⟩ | hk
    · exact .inl ⟨h2, h1⟩
    · exact .inr (by omega)
  refine ⟨PairAt.move ⟨c, x, y, t, s, h⟩ (Mov.to (fun k _ hk => up k (Gro.gro hs1.size hk))), ?_⟩
  exact (Stp.of hW).trans ((hs1.trans hs2).mono (fun k _ hk => Gro.any hk.1))
/-- A step of a script. -/
structure StepD where
  kind : Int
  a : Int
  n : Int
  s : ByteArray
  t : ByteArray
  lv : Value
  l : List ByteArray
def StepD.cells (o : StepD) : Array Value := #[.int .i64 o.kind, .int .i64 o.a, .int .i64 o.n, .string o.s, .string o.t, o.lv]
/-- The engine behind a step. -/
def stepE (g : Eng) (o : StepD) : Eng :=
  if o.kind = 3 then (createE g o.s o.t).2 else if o.kind = 4 then (insertE g o.s o.l).2.2 else if o.kind = 5 then (deleteE g o.s o.n).2 else if o.kind = 6 then (tickE g o.n).2 else g
structure StepOk (w : World) (o : StepD) : Prop where
  s : o.s.size ≤ 2000000
  t : o.t.size ≤ 2000000
  l : o.l.length ≤ 2000000
  ls : ∀ x ∈ o.l, x.size ≤ 2000000
  a0 : -9223372036854775808 ≤ o.a
  a1 : o.a ≤ 9223372036854775807
  lv : StrIn w o.lv o.l
  ln : o.lv = .slice none 0 0 ∨ ∃ a cap, o.lv = .slice (some a) o.l.length cap
theorem EngOk.step {N : Nat} {g : Eng} (ok : EngOk N g) (o : StepD) : EngOk (N + 1) (stepE g o) := by
  unfold stepE
  split
  · exact (ok.create o.s o.t).mono (Nat.le_succ N)
  · split
    · exact ok.insert o.s o.l
    · split
      · exact (ok.delete o.s o.n).mono (Nat.le_succ N)
      · split
        · exact (ok.tick o.n).mono (Nat.le_succ N)
        · exact ok.mono (Nat.le_succ N)
def TabP (F : Nat → Prop) (w : World) (b : Nat) (g : Eng) (e : Ending) (w' : World) : Prop := e = .returned (.bool true) ∧ PairAt (Gro F w) w' b g ∧ Stp F w w'
/-- The box that a step is laid into. -/
theorem box_facts {o : StepD} {W : World} {B : Nat} (h : W.heap[B]? = some (.cells o.cells 81 (0, 0))) : W.cell? ⟨B, 0, none⟩ = some (.int .i64 o.kind) ∧ W.cell? ⟨B, 1, none⟩ = some (.int .i64 o.a) ∧ W.cell? ⟨B, 2, none⟩ = some (.int .i64 o.n) ∧ W.cell? ⟨B, 3, none⟩ = some (.string o.s) ∧ W.cell? ⟨B, 4, none⟩ = some (.string o.t) ∧ W.cell? ⟨B, 5, none⟩ = some o.lv :=
  ⟨blkCell h (i := 0) rfl, blkCell h (i := 1) rfl, blkCell h (i := 2) rfl, blkCell h (i := 3) rfl, blkCell h (i := 4) rfl, blkCell h (i := 5) rfl⟩
section
variable {F : Nat → Prop} {w : World} {b : Nat} {g : Eng} {N : Nat} (h : PairAt F w b g) (ok : EngOk N g) (hN : N ≤ 1000000000) (hg : Glob w) (hF8 : ∀ k, F k → 8 ≤ k) (o : StepD) (so : StepOk w o)
include h ok hg hF8 so
set_option maxHeartbeats 8000000 in
set_option maxRecDepth 100000 in
theorem ltab_create (hk : o.kind = 3) : Calls Tryz.prog 62 #[.pointer (some ⟨b, 0, none⟩), .agg o.cells] w (TabP F w b (stepE g o)) := by
  have hse : stepE g o = (createE g o.s o.t).2 := by unfold stepE; simp [hk]
  rw [hse]
  obtain ⟨c, x, y, t, s, hP⟩ := h
  obtain ⟨kind, a, n, S, T, lv, l⟩ := o
  obtain rfl : kind = 3 := hk
  have hW : Below w.heap.size w (w.alloc (.cells #[.int .i64 3, .int .i64 a, .int .i64 n, .string S, .string T, lv] 81)) := (Below.refl _ _).alloc (Nat.le_refl _) _
  have hbox := heap_alloc_new w (.cells #[.int .i64 3, .int .i64 a, .int .i64 n, .string S, .string T, lv] 81)
  have hP0 : PairC (cut F w) c (w.alloc (.cells #[.int .i64 3, .int .i64 a, .int .i64 n, .string S, .string T, lv] 81)) b x y t s g g := hP.move (fun k hk hF => ⟨⟨hF, hk⟩, hW.block k hk⟩)
  have hgW := hg.below hW hg.big
  have hs1 : S.size ≤ 2000000 := so.s
  have hs2 : T.size ≤ 2000000 := so.t
  have HNUM := hide num_any
  have HW := hide hW
  clear hP hg hW hse so
  show Calls Tryz.prog _ #[.pointer (some ⟨b, 0, none⟩), .agg #[.int .i64 3, .int .i64 a, .int .i64 n, .string S, .string T, lv]] w _
  go_enter Tryz.func62, Tryz.ntmps62
  go_upto_region 5 with fail
  have HBX := hide hbox
  generalize w.alloc (.cells #[.int .i64 3, .int .i64 a, .int .i64 n, .string S, .string T, lv] 81) = W at *
  have z0 : w.heap.size < W.heap.size := (Array.getElem?_eq_some_iff.1 HBX.out).1
  generalize hB : w.heap.size = B at *
  have HBB := hide hB
  clear hB hbox
  have q0 : W.cell? ⟨b, 0, none⟩ = some (.pointer (some ⟨x, 0, none⟩)) := hP0.1.cell (i := 0) rfl
  have q3 : W.cell? ⟨B, 3, none⟩ = some (.string S) := blkCell HBX.out (i := 3) rfl
  have q4 : W.cell? ⟨B, 4, none⟩ = some (.string T) := blkCell HBX.out (i := 4) rfl
  have hP1 : PairC (cut F w) c W.drew b x y t s g g := hP0.move (fun k _ hF => ⟨hF, rfl⟩)
  have HC := hide (ecreate_any hP1.2.1 ok (hgW.kept (Nat.le_refl _) (fun _ _ => rfl)) S T hs1 hs2)
  have HK : Hid (∀ w1, Stp (colr (cut F w) c 1) W.drew w1 → w1.cell? ⟨b, 0, none⟩ = some (.pointer (some ⟨x, 0, none⟩)) ∧ w1.cell? ⟨b, 1, none⟩ = some (.pointer (some ⟨y, 0, none⟩)) ∧ w1.cell? ⟨B, 3, none⟩ = some (.string S) ∧ w1.cell? ⟨B, 4, none⟩ = some (.string T)) := hide (fun w1 hs => by
    have eb : w1.heap[b]? = W.heap[b]? := hs.block b hP0.1.lt (fun hc => by have a := hc.2; have b := hP0.1.1.2; omega)
    have eB : w1.heap[B]? = W.heap[B]? := hs.block B z0 (fun hc => by have a := hc.1.2; have b := HBB.out; omega)
    exact ⟨(World.cell?_of_block eb).trans q0, (World.cell?_of_block eb).trans (hP0.1.cell (i := 1) rfl), (World.cell?_of_block eB).trans q3, (World.cell?_of_block eB).trans q4⟩)
  have HP := hide hP1
  have HW2 : Hid (Below w.heap.size w W.drew) := hide (by have := HW.out; rw [HBB.out]; exact this.drew)
  have HG1 : Hid (∀ w1, Stp (cut F w) W.drew w1 → Glob w1) := hide (fun w1 hs => hgW.kept hs.size (fun k hk => hs.block k (by have := hgW.big; exact Nat.lt_of_lt_of_le hk this) (fun hc => by have := hF8 k hc.1; omega)))
  clear hP0 hP1 hgW hF8
  go_region_held3 (fun w' => w'.cell? ⟨b, 0, none⟩ = some (.pointer (some ⟨x, 0, none⟩)) ∧ w'.cell? ⟨B, 3, none⟩ = some (.string S) ∧ w'.cell? ⟨B, 4, none⟩ = some (.string T)) (go_keep) (first | (go_at_call 38; refine HC.out.mono ?_; rintro e w1 ⟨rfl, hE1, hS1⟩; obtain ⟨r0, r1, r3, r4⟩ := HK.out w1 hS1))
  have z1 : B < W.drew.heap.size := z0
  generalize W.drew = W0 at *
  obtain ⟨hPL, hSL⟩ := HP.out.left hE1 hS1
  have hP2 : PairC (Gro (cut F w) W0) (cNew c W0 1) w1.drew b x y t s _ g := hPL.move (fun k _ hF => ⟨hF, rfl⟩)
  have HC2 := hide (rcreate_any hP2.2.2 ok S T hs1 hs2)
  have HPE : Hid (∀ w2, REngAt (Gro (colr (Gro (cut F w) W0) (cNew c W0 1) 2) w1.drew) w2 y (.slice none 0 0) (.slice none 0 0) ((createE g S T).2) → Stp (colr (Gro (cut F w) W0) (cNew c W0 1) 2) w1.drew w2 → PairAt (Gro F w) w2 b ((createE g S T).2) ∧ Stp F w w2) := hide (fun w2 hr hs => by
    obtain ⟨hPR, hSR⟩ := hP2.right hr hs
    exact pair_end HW2.out hPR (hSL.trans ⟨rfl, rfl, rfl, Nat.le_refl _, fun _ _ _ => rfl⟩) hSR)
  have HK2 : Hid (∀ w2, Stp (colr (Gro (cut F w) W0) (cNew c W0 1) 2) w1.drew w2 → w2.cell? ⟨b, 1, none⟩ = some (.pointer (some ⟨y, 0, none⟩)) ∧ w2.cell? ⟨B, 3, none⟩ = some (.string S) ∧ w2.cell? ⟨B, 4, none⟩ = some (.string T)) := hide (fun w2 hs => by
    have eb : w2.heap[b]? = w1.heap[b]? := hs.block b hPL.1.lt (fun hc => by have a := hc.2; have b := hPL.1.1.2; omega)
    have hBl : B < w1.heap.size := by
      by_cases hh : B < w1.heap.size
      · exact hh
      · simp [World.cell?, Array.getElem?_eq_none (show w1.heap.size ≤ B by omega)] at r3
    have eB : w2.heap[B]? = w1.heap[B]? := hs.block B hBl (fun hc => by
      rcases hc.1 with ⟨_, h1⟩ | h1
      · have a := h1.2; have b := HBB.out; omega
      · omega)
    exact ⟨(World.cell?_of_block eb).trans r1, (World.cell?_of_block eB).trans r3, (World.cell?_of_block eB).trans r4⟩)
  clear hPL hSL hP2 hE1 hS1 HK HC HG1 HP q0 q3 q4 r0
  generalize createE g S T = RES at *
  go_upto_region 6 with fail
  go_region_held3 (fun w' => w'.cell? ⟨b, 1, none⟩ = some (.pointer (some ⟨y, 0, none⟩)) ∧ w'.cell? ⟨B, 3, none⟩ = some (.string S) ∧ w'.cell? ⟨B, 4, none⟩ = some (.string T)) (go_keep) (first | (go_at_call 109; refine HC2.out.mono ?_; rintro e w2 ⟨rfl, hE2, hS2⟩; obtain ⟨s1, s3, s4⟩ := HK2.out w2 hS2))
  go_wp2_with (go_at_call 108; refine (HNUM.out _ w2).mono ?_; rintro e w3 ⟨rfl, rfl⟩)
  go_ret
  exact ⟨rfl, HPE.out w2 hE2 hS2⟩
set_option maxHeartbeats 8000000 in
set_option maxRecDepth 100000 in
theorem ltab_delete (hk : o.kind = 5) : Calls Tryz.prog 62 #[.pointer (some ⟨b, 0, none⟩), .agg o.cells] w (TabP F w b (stepE g o)) := by
  have hse : stepE g o = (deleteE g o.s o.n).2 := by unfold stepE; simp [hk]
  rw [hse]
  obtain ⟨c, x, y, t, s, hP⟩ := h
  obtain ⟨kind, a, n, S, T, lv, l⟩ := o
  obtain rfl : kind = 5 := hk
  have hW : Below w.heap.size w (w.alloc (.cells #[.int .i64 5, .int .i64 a, .int .i64 n, .string S, .string T, lv] 81)) := (Below.refl _ _).alloc (Nat.le_refl _) _
  have hbox := heap_alloc_new w (.cells #[.int .i64 5, .int .i64 a, .int .i64 n, .string S, .string T, lv] 81)
  have hP0 : PairC (cut F w) c (w.alloc (.cells #[.int .i64 5, .int .i64 a, .int .i64 n, .string S, .string T, lv] 81)) b x y t s g g := hP.move (fun k hk hF => ⟨⟨hF, hk⟩, hW.block k hk⟩)
  have hgW := hg.below hW hg.big
  have hs1 : S.size ≤ 2000000 := so.s
  have hs2 : T.size ≤ 2000000 := so.t
  have HNUM := hide num_any
  have HW := hide hW
  clear hP hg hW hse so
  show Calls Tryz.prog _ #[.pointer (some ⟨b, 0, none⟩), .agg #[.int .i64 5, .int .i64 a, .int .i64 n, .string S, .string T, lv]] w _
  go_enter Tryz.func62, Tryz.ntmps62
  go_upto_region 10 with fail
  have HBX := hide hbox
  generalize w.alloc (.cells #[.int .i64 5, .int .i64 a, .int .i64 n, .string S, .string T, lv] 81) = W at *
  have z0 : w.heap.size < W.heap.size := (Array.getElem?_eq_some_iff.1 HBX.out).1
  generalize hB : w.heap.size = B at *
  have HBB := hide hB
  clear hB hbox
  have q0 : W.cell? ⟨b, 0, none⟩ = some (.pointer (some ⟨x, 0, none⟩)) := hP0.1.cell (i := 0) rfl
  have q3 : W.cell? ⟨B, 3, none⟩ = some (.string S) := blkCell HBX.out (i := 3) rfl
  have q4 : W.cell? ⟨B, 2, none⟩ = some (.int .i64 n) := blkCell HBX.out (i := 2) rfl
  have hP1 : PairC (cut F w) c W.drew b x y t s g g := hP0.move (fun k _ hF => ⟨hF, rfl⟩)
  have HC := hide (edelete_any hP1.2.1 ok S n)
  have HK : Hid (∀ w1, Stp (colr (cut F w) c 1) W.drew w1 → w1.cell? ⟨b, 0, none⟩ = some (.pointer (some ⟨x, 0, none⟩)) ∧ w1.cell? ⟨b, 1, none⟩ = some (.pointer (some ⟨y, 0, none⟩)) ∧ w1.cell? ⟨B, 3, none⟩ = some (.string S) ∧ w1.cell? ⟨B, 2, none⟩ = some (.int .i64 n)) := hide (fun w1 hs => by
    have eb : w1.heap[b]? = W.heap[b]? := hs.block b hP0.1.lt (fun hc => by have a := hc.2; have b := hP0.1.1.2; omega)
    have eB : w1.heap[B]? = W.heap[B]? := hs.block B z0 (fun hc => by have a := hc.1.2; have b := HBB.out; omega)
    exact ⟨(World.cell?_of_block eb).trans q0, (World.cell?_of_block eb).trans (hP0.1.cell (i := 1) rfl), (World.cell?_of_block eB).trans q3, (World.cell?_of_block eB).trans q4⟩)
  have HP := hide hP1
  have HW2 : Hid (Below w.heap.size w W.drew) := hide (by have := HW.out; rw [HBB.out]; exact this.drew)
  have HG1 : Hid (∀ w1, Stp (cut F w) W.drew w1 → Glob w1) := hide (fun w1 hs => hgW.kept hs.size (fun k hk => hs.block k (by have := hgW.big; exact Nat.lt_of_lt_of_le hk this) (fun hc => by have := hF8 k hc.1; omega)))
  clear hP0 hP1 hgW hF8
  go_region_held3 (fun w' => w'.cell? ⟨b, 0, none⟩ = some (.pointer (some ⟨x, 0, none⟩)) ∧ w'.cell? ⟨B, 3, none⟩ = some (.string S) ∧ w'.cell? ⟨B, 2, none⟩ = some (.int .i64 n)) (go_keep) (first | (go_at_call 40; refine HC.out.mono ?_; rintro e w1 ⟨rfl, hE1, hS1⟩; obtain ⟨r0, r1, r3, r4⟩ := HK.out w1 hS1))
  have z1 : B < W.drew.heap.size := z0
  generalize W.drew = W0 at *
  obtain ⟨hPL, hSL⟩ := HP.out.left hE1 hS1
  have hP2 : PairC (Gro (cut F w) W0) (cNew c W0 1) w1.drew b x y t s _ g := hPL.move (fun k _ hF => ⟨hF, rfl⟩)
  have HC2 := hide (rdelete_any hP2.2.2 ok S n)
  have HPE : Hid (∀ w2, REngAt (Gro (colr (Gro (cut F w) W0) (cNew c W0 1) 2) w1.drew) w2 y (.slice none 0 0) (.slice none 0 0) ((deleteE g S n).2) → Stp (colr (Gro (cut F w) W0) (cNew c W0 1) 2) w1.drew w2 → PairAt (Gro F w) w2 b ((deleteE g S n).2) ∧ Stp F w w2) := hide (fun w2 hr hs => by
    obtain ⟨hPR, hSR⟩ := hP2.right hr hs
    exact pair_end HW2.out hPR (hSL.trans ⟨rfl, rfl, rfl, Nat.le_refl _, fun _ _ _ => rfl⟩) hSR)
  have HK2 : Hid (∀ w2, Stp (colr (Gro (cut F w) W0) (cNew c W0 1) 2) w1.drew w2 → w2.cell? ⟨b, 1, none⟩ = some (.pointer (some ⟨y, 0, none⟩)) ∧ w2.cell? ⟨B, 3, none⟩ = some (.string S) ∧ w2.cell? ⟨B, 2, none⟩ = some (.int .i64 n)) := hide (fun w2 hs => by
    have eb : w2.heap[b]? = w1.heap[b]? := hs.block b hPL.1.lt (fun hc => by have a := hc.2; have b := hPL.1.1.2; omega)
    have hBl : B < w1.heap.size := by
      by_cases hh : B < w1.heap.size
      · exact hh
      · simp [World.cell?, Array.getElem?_eq_none (show w1.heap.size ≤ B by omega)] at r3
    have eB : w2.heap[B]? = w1.heap[B]? := hs.block B hBl (fun hc => by
      rcases hc.1 with ⟨_, h1⟩ | h1
      · have a := h1.2; have b := HBB.out; omega
      · omega)
    exact ⟨(World.cell?_of_block eb).trans r1, (World.cell?_of_block eB).trans r3, (World.cell?_of_block eB).trans r4⟩)
  clear hPL hSL hP2 hE1 hS1 HK HC HG1 HP q0 q3 q4 r0
  generalize deleteE g S n = RES at *
  go_upto_region 11 with fail
  go_region_held3 (fun w' => w'.cell? ⟨b, 1, none⟩ = some (.pointer (some ⟨y, 0, none⟩)) ∧ w'.cell? ⟨B, 3, none⟩ = some (.string S) ∧ w'.cell? ⟨B, 2, none⟩ = some (.int .i64 n)) (go_keep) (first | (go_at_call 111; refine HC2.out.mono ?_; rintro e w2 ⟨rfl, hE2, hS2⟩; obtain ⟨s1, s3, s4⟩ := HK2.out w2 hS2))
  go_wp2_with (go_at_call 108; refine (HNUM.out _ w2).mono ?_; rintro e w3 ⟨rfl, rfl⟩)
  go_ret
  exact ⟨rfl, HPE.out w2 hE2 hS2⟩
end
end Go.Proofs.YtbkeflgafjnefaaGreatDoor
namespace Go.Proofs.YtbkeflgafjnefaaGreatDoor
open Go.RowKit
open Trib
theorem PairC.loosen {F : Nat → Prop} {c : Nat → Nat} {w : World} {b x y : Nat} {t : Bool} {s : Value} {g g2 : Eng} (h : PairC F c w b x y t s g g2) : PairC F c (w.setCell ⟨b, 2, none⟩ (.bool false)) b x y false s g g2 := by
  have m : ∀ j, j ≠ 0 → Mov (colr F c j) (colr F c j) w (w.setCell ⟨b, 2, none⟩ (.bool false)) := fun j hj k _ hF => ⟨hF, Below.heap_setCell _ _ _ k (fun e => by
    have a := hF.2
    have b' := h.1.1.2
    have e' : k = b := e
    subst e'
    omega)⟩
  exact ⟨h.1.set 2 _, h.2.1.move (m 1 (by decide)), h.2.2.move (m 2 (by decide))⟩
theorem tab_up {F : Nat → Prop} {w W w' : World} {b : Nat} {g : Eng} (hW : Below w.heap.size w W) (h : PairAt (Gro (cut F w) W) w' b g) (hs : Stp (cut F w) W w') : PairAt (Gro F w) w' b g ∧ Stp F w w' := by
  have hz := hW.size
  refine ⟨h.move (Mov.to (fun k _ hk => ?_)), (Stp.of hW).trans (hs.mono (fun k _ hk => Gro.any hk.1))⟩
  rcases hk with ⟨_, h1, h2⟩ | hk
  · exact .inl ⟨h2, h1⟩
  · exact .inr (by omega)
section
variable {F : Nat → Prop} {w : World} {b : Nat} {g : Eng} (h : PairAt F w b g) (o : StepD)
include h
set_option maxHeartbeats 8000000 in
set_option maxRecDepth 100000 in
theorem ltab_tick (hk : o.kind = 6) : Calls Tryz.prog 62 #[.pointer (some ⟨b, 0, none⟩), .agg o.cells] w (TabP F w b (stepE g o)) := by
  have hse : stepE g o = (tickE g o.n).2 := by unfold stepE; simp [hk]
  rw [hse]
  obtain ⟨c, x, y, t, s, hP⟩ := h
  obtain ⟨kind, a, n, S, T, lv, l⟩ := o
  obtain rfl : kind = 6 := hk
  have hW : Below w.heap.size w (w.alloc (.cells #[.int .i64 6, .int .i64 a, .int .i64 n, .string S, .string T, lv] 81)) := (Below.refl _ _).alloc (Nat.le_refl _) _
  have hbox := heap_alloc_new w (.cells #[.int .i64 6, .int .i64 a, .int .i64 n, .string S, .string T, lv] 81)
  have hP0 : PairC (cut F w) c (w.alloc (.cells #[.int .i64 6, .int .i64 a, .int .i64 n, .string S, .string T, lv] 81)) b x y t s g g := hP.move (fun k hk hF => ⟨⟨hF, hk⟩, hW.block k hk⟩)
  have HW := hide hW
  clear hP hW hse
  show Calls Tryz.prog _ #[.pointer (some ⟨b, 0, none⟩), .agg #[.int .i64 6, .int .i64 a, .int .i64 n, .string S, .string T, lv]] w _
  go_enter Tryz.func62, Tryz.ntmps62
  go_upto_region 13 with fail
  have HBX := hide hbox
  generalize w.alloc (.cells #[.int .i64 6, .int .i64 a, .int .i64 n, .string S, .string T, lv] 81) = W at *
  have z0 : w.heap.size < W.heap.size := (Array.getElem?_eq_some_iff.1 HBX.out).1
  generalize hB : w.heap.size = B at *
  have HBB := hide hB
  clear hB hbox
  have q0 : W.cell? ⟨b, 0, none⟩ = some (.pointer (some ⟨x, 0, none⟩)) := hP0.1.cell (i := 0) rfl
  have q4 : W.cell? ⟨B, 2, none⟩ = some (.int .i64 n) := blkCell HBX.out (i := 2) rfl
  have hP1 : PairC (cut F w) c W.drew b x y t s g g := hP0.move (fun k _ hF => ⟨hF, rfl⟩)
  have HC := hide (etick_any hP1.2.1 n)
  have HK : Hid (∀ w1, Stp (colr (cut F w) c 1) W.drew w1 → w1.cell? ⟨b, 0, none⟩ = some (.pointer (some ⟨x, 0, none⟩)) ∧ w1.heap[B]? = some (.cells #[.int .i64 6, .int .i64 a, .int .i64 n, .string S, .string T, lv] 81 (0, 0)) ∧ w1.cell? ⟨B, 2, none⟩ = some (.int .i64 n)) := hide (fun w1 hs => by
    have eb : w1.heap[b]? = W.heap[b]? := hs.block b hP0.1.lt (fun hc => by have a := hc.2; have b := hP0.1.1.2; omega)
    have eB : w1.heap[B]? = W.heap[B]? := hs.block B z0 (fun hc => by have a := hc.1.2; have b := HBB.out; omega)
    exact ⟨(World.cell?_of_block eb).trans q0, eB.trans HBX.out, (World.cell?_of_block eB).trans q4⟩)
  have HP := hide hP1
  have HW2 : Hid (Below w.heap.size w W.drew) := hide (by have := HW.out; rw [HBB.out]; exact this.drew)
  clear hP0 hP1
  go_region_held3 (fun w' => w'.cell? ⟨b, 0, none⟩ = some (.pointer (some ⟨x, 0, none⟩)) ∧ w'.cell? ⟨B, 2, none⟩ = some (.int .i64 n)) (go_keep) (first | (go_at_call 29; refine HC.out.mono ?_; rintro e w1 ⟨rfl, hE1, hS1⟩; obtain ⟨r0, r3, r4⟩ := HK.out w1 hS1))
  have z1 : B < W.drew.heap.size := z0
  generalize W.drew = W0 at *
  obtain ⟨hPL, hSL⟩ := HP.out.left hE1 hS1
  have hP3 := hPL.loosen
  have hS3 : Stp (cut F w) W0 (w1.setCell ⟨b, 2, none⟩ (.bool false)) := hSL.trans (Stp.set b 2 _ hPL.1.1.1)
  have hbne : B ≠ b := fun e => by
    rcases hPL.1.1.1 with ⟨_, h1⟩ | h1
    · have a := h1.2; have b := HBB.out; omega
    · omega
  have hX3 : (w1.setCell ⟨b, 2, none⟩ (.bool false)).heap[B]? = some (.cells #[.int .i64 6, .int .i64 a, .int .i64 n, .string S, .string T, lv] 81 (0, 0)) := (Below.heap_setCell _ _ _ B hbne).trans r3
  have p2 : w1.cell? ⟨b, 2, none⟩ = some (.bool t) := hPL.1.cell (i := 2) rfl
  have f2 : w1.frozen? ⟨b, 2, none⟩ = false := hPL.1.free
  have H3 := hide hP3
  have HS3 := hide hS3
  have HX3 := hide hX3
  clear hP3 hS3 hX3 hPL hSL hE1 hS1 HK HC HP q0 q4 r0 r3 r4
  go_upto_region 15 with fail
  generalize w1.setCell ⟨b, 2, none⟩ (.bool false) = W3 at *
  have hP4 : PairC (Gro (cut F w) W0) (cNew c W0 1) W3.drew b x y false s _ g := H3.out.move (fun k _ hF => ⟨hF, rfl⟩)
  have HC2 := hide (rticks_any hP4.2.2 n)
  have y1 : W3.cell? ⟨b, 1, none⟩ = some (.pointer (some ⟨y, 0, none⟩)) := H3.out.1.cell (i := 1) rfl
  have y2 : W3.cell? ⟨B, 2, none⟩ = some (.int .i64 n) := blkCell HX3.out (i := 2) rfl
  have HPE : Hid (∀ w2, REngAt (Gro (colr (Gro (cut F w) W0) (cNew c W0 1) 2) W3.drew) w2 y (.slice none 0 0) (.slice none 0 0) (tickE g n).2 → Stp (colr (Gro (cut F w) W0) (cNew c W0 1) 2) W3.drew w2 → PairAt (Gro F w) w2 b (tickE g n).2 ∧ Stp F w w2) := hide (fun w2 hr hs => by
    obtain ⟨hPR, hSR⟩ := hP4.right hr hs
    exact pair_end HW2.out hPR (HS3.out.trans ⟨rfl, rfl, rfl, Nat.le_refl _, fun _ _ _ => rfl⟩) hSR)
  have HK2 : Hid (∀ w2, Stp (colr (Gro (cut F w) W0) (cNew c W0 1) 2) W3.drew w2 → w2.cell? ⟨b, 1, none⟩ = some (.pointer (some ⟨y, 0, none⟩)) ∧ w2.cell? ⟨B, 2, none⟩ = some (.int .i64 n)) := hide (fun w2 hs => by
    have eb : w2.heap[b]? = W3.heap[b]? := hs.block b H3.out.1.lt (fun hc => by have a := hc.2; have b := H3.out.1.1.2; omega)
    have eB : w2.heap[B]? = W3.heap[B]? := hs.block B (Array.getElem?_eq_some_iff.1 HX3.out).1 (fun hc => by
      rcases hc.1 with ⟨_, h1⟩ | h1
      · have a := h1.2; have b := HBB.out; omega
      · omega)
    exact ⟨(World.cell?_of_block eb).trans y1, (World.cell?_of_block eB).trans y2⟩)
  clear hP4 H3 HS3
  generalize tickE g n = RES at *
  go_region_held3 (fun w' => w'.cell? ⟨b, 1, none⟩ = some (.pointer (some ⟨y, 0, none⟩)) ∧ w'.cell? ⟨B, 2, none⟩ = some (.int .i64 n)) (go_keep) (first | (go_at_call 112; refine HC2.out.mono ?_; rintro e w2 ⟨rfl, hE2, hS2⟩; obtain ⟨s1, s3⟩ := HK2.out w2 hS2))
  go_wp2_with fail
  go_ret
  exact ⟨rfl, HPE.out w2 hE2 hS2⟩
end
end Go.Proofs.YtbkeflgafjnefaaGreatDoor
