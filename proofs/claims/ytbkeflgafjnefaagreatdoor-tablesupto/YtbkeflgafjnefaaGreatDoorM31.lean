/- Towards the law of tables: R13, R14, R15, R16, R17. -/
import Derived.Test.YtbkeflgafjnefaaGreatDoorM30
namespace Go.Proofs.YtbkeflgafjnefaaGreatDoor
open Go.RowKit
open Trib

theorem Kds_len' (ts : List ByteArray) (p : Nat) : (Kds ts p).length = ts.length - p := by simp [Kds]
theorem After.set_new {w w1 : World} {b c o : Nat} {v : Value} {p : Int} {bad : Bool} {deep : Int} (h : After w b v p bad deep w1) (x : Value) (hc : w.heap.size ≤ c) (hb : b < w.heap.size) : After w b v p bad deep (w1.setCell ⟨c, o, none⟩ x) :=
  ⟨(Below.heap_setCell _ _ _ b (by show b ≠ c; omega)).trans h.1, h.2.os, h.2.tape, h.2.output, by
    show _ ≤ (w1.heap.modify c _).size
    rw [Array.size_modify]; exact h.2.size, fun k hk hn => (Below.heap_setCell _ _ _ k (by show k ≠ c; omega)).trans (h.2.block k hk hn)⟩
/-- A block that was made ahead of a reading lies behind it as it was made. -/
theorem made_kept {w2 w4 : World} {b : Nat} {o : Obj} (hb : b < w2.heap.size) (hg : (w2.alloc o).grownBy w4 (some b)) : w4.heap[w2.heap.size]? = some o := by
  have h1 : (w2.alloc o).heap[w2.heap.size]? = some o := heap_alloc_new w2 o
  exact (hg.block w2.heap.size (lt_of_block h1) (by simp; omega)).trans h1
theorem cell_of_block {w : World} {c i : Nat} {cs : Array Value} {t : TypeId} (h : w.heap[c]? = some (.cells cs t (0, 0))) {x : Value} (hx : cs[i]? = some x) : w.cell? ⟨c, i, none⟩ = some x := by simp [World.cell?, h, hx]
theorem free_of_block {w : World} {c i : Nat} {cs : Array Value} {t : TypeId} (h : w.heap[c]? = some (.cells cs t (0, 0))) : w.frozen? ⟨c, i, none⟩ = false := by simp [World.frozen?, h]
/-- What an aggregate's reading comes to. -/
def AggRes (f : Nat) (ks : List Nat) (d : Int) (count : Bool) : Option (List Nat × Int) :=
  (must 4 ks).bind fun k1 => if count = true ∧ k1.headD 0 = 13 then (must 5 k1.tail).bind fun k2 => some (k2, d)
        else (R f 0 k1 (d + 1)).bind fun x => (must 5 x.1).bind fun k3 => some (k3, max d x.2)

set_option maxHeartbeats 4000000 in
theorem agg_other (f : Nat) (ih : ExprOk f) (b : Nat) (v : Value) (ts : List ByteArray) (p : Nat) (kind deep d : Int) (w : World) (h : ScanIs w b v p false deep) (hr : RowIs w b v ts) (hp : p < ts.length) (hs : Small ts) (hd0 : 0 ≤ d) (hd1 : d + (f + 1 : Nat) ≤ 10000) (hf : f + 1 ≤ 10000) (hn : 8 * (Kds ts p).length + 1 ≤ f + 1) (hd : d ≤ deep)
    (hkind : (kind == 9) = false) :
    Calls Tryz.prog 389 #[.pointer (some ⟨b, 0, none⟩), .int .i64 kind, .int .i64 d] w fun e w' => Ptr e ∧ Out w b v ts p deep (Far ts (f + 1)) w' (AggRes f (Kds ts (p + 1)) d false) := by
  have hs1 := hs.1
  rw [Kds_len'] at hn
  have hfar : Hid (Far ts (f + 1) = (ts.length : Int) + 4 * (f + 1 : Nat) + 4) := hide rfl
  have hfar0 : Hid (Far ts f = (ts.length : Int) + 4 * f + 4) := hide rfl
  generalize hR : AggRes f (Kds ts (p + 1)) d false = res
  rw [AggRes, must_Kds ts (p + 1) 4 (by decide)] at hR
  have HR := hide hR
  clear hR
  obtain ⟨c0, c1, c2, c3⟩ := h.cells
  have hf1 := h.free 1
  have IH := hide ih
  clear ih
  have HA : After w b v (p + 1 : Nat) false deep (w.setCell ⟨b, 1, none⟩ (.int .i64 ((p : Int) + 1))) := ⟨h.set1 _, grownBy_set _ _ _ _⟩
  have hblt := h.lt
  go_enter Tryz.func389, Tryz.ntmps389
  go_wp2_with fail
  refine (must_any b v ts (p + 1) 4 deep _ _ (by decide) (by decide) (by decide) HA.1 (HA.row hr) (by omega) hs).mono ?_
  rintro e w2 ⟨rfl, ⟨k2, hp2, ha2⟩ | ⟨k2, ha2⟩⟩
  · have HR2 : Hid (res = (R f 0 (Kds ts (p + 1 + 1)) (d + 1)).bind fun x => (must 5 x.1).bind fun k3 => some (k3, max d x.2)) := hide (HR.out.symm.trans (by rw [if_pos k2, Option.bind_some, if_neg (by simp)]))
    clear k2 c0 c1 c2 c3 hf1
    have HB := HA.trans ha2
    have hc2 : w.heap.size ≤ w2.heap.size := HB.2.size
    have hb2 : b < w2.heap.size := by omega
    have HS3 := HB.alloc (.cells #[.int .i64 kind, .int .i64 0, .string ⟨#[]⟩, .string ⟨#[]⟩, .slice none 0 0, .pointer none] 450)
    have hg3 := grownBy_refl (w2.alloc (.cells #[.int .i64 kind, .int .i64 0, .string ⟨#[]⟩, .string ⟨#[]⟩, .slice none 0 0, .pointer none] 450)) (some b)
    go_wp2_with fail
    refine (IH.out b v ts (p + 1 + 1) _ (d + 1) _ HS3.1 (HS3.row hr) (by omega) hs (by omega) (by omega) (by omega) (by rw [Kds_len']; omega)).mono ?_
    rintro e w4 ⟨⟨x4, rfl⟩, ho4⟩
    generalize hr4 : R f 0 (Kds ts (p + 1 + 1)) (d + 1) = r4 at ho4
    have HR4 := hide hr4
    clear hr4
    match r4, ho4 with
    | none, ⟨p4, d4, h04, h14, ha4⟩ =>
      have hp4 : p4 ≤ (ts.length : Int) + 4 * f + 4 := by rw [← hfar0.out]; exact h14
      have hblk := made_kept hb2 (hg3.trans ha4.2)
      have hz4 := lt_of_block hblk
      have cc := cell_of_block (i := 4) hblk rfl
      have fc := free_of_block (i := 4) hblk
      have hres : Hid (res = none) := hide (by rw [HR2.out, HR4.out]; rfl)
      have HS4 := HS3.trans ha4
      go_wp2_with fail
      have HS5 : After w b v p4 true d4 ((w4.setCell ⟨w2.heap.size, 4, none⟩ (.slice (some ⟨w4.heap.size, 0, none⟩) 1 1)).alloc (.cells #[.pointer (some x4)] 386)) := (HS4.set_new _ hc2 hblt).alloc _
      refine (must_bad b v ts p4 _ _ _ HS5.1 (HS5.row hr) h04 (by omega) (by omega)).mono ?_
      rintro e w6 ⟨rfl, ha6⟩
      go_wp2_with fail
      go_ret
      rw [hres.out]
      exact ⟨⟨_, rfl⟩, _, _, h04, by rw [hfar.out]; omega, HS5.trans ha6⟩
    | some (ks4, m4), ⟨p4, hk4, hge4, hp4, ha4⟩ =>
      subst hk4
      have hblk := made_kept hb2 (hg3.trans ha4.2)
      have hz4 := lt_of_block hblk
      have cc := cell_of_block (i := 4) hblk rfl
      have fc := free_of_block (i := 4) hblk
      have HS4 := HS3.trans ha4
      go_wp2_with fail
      have HS5 : After w b v p4 false (max deep m4) ((w4.setCell ⟨w2.heap.size, 4, none⟩ (.slice (some ⟨w4.heap.size, 0, none⟩) 1 1)).alloc (.cells #[.pointer (some x4)] 386)) := (HS4.set_new _ hc2 hblt).alloc _
      refine (must_any b v ts p4 5 _ _ _ (by decide) (by decide) (by decide) HS5.1 (HS5.row hr) hp4 hs).mono ?_
      rintro e w6 ⟨rfl, ⟨k6, hp6, ha6⟩ | ⟨k6, ha6⟩⟩
      · have hres : Hid (res = some (Kds ts (p4 + 1), max d m4)) := hide (by rw [HR2.out, HR4.out, Option.bind_some, must_Kds ts p4 5 (by decide), if_pos k6]; rfl)
        clear k6
        go_wp2_with fail
        go_ret
        rw [hres.out]
        refine ⟨⟨_, rfl⟩, p4 + 1, rfl, by omega, hp6, ?_⟩
        rw [show max deep (max d m4) = max deep m4 by omega]
        exact HS5.trans ha6
      · have hres : Hid (res = none) := hide (by rw [HR2.out, HR4.out, Option.bind_some, must_Kds ts p4 5 (by decide), if_neg k6]; rfl)
        clear k6
        go_wp2_with fail
        go_ret
        rw [hres.out]
        exact ⟨⟨_, rfl⟩, _, _, by omega, by rw [hfar.out]; omega, HS5.trans ha6⟩
  · have hres : Hid (res = none) := hide (by rw [← HR.out, if_neg k2]; rfl)
    clear k2 c0 c1 c2 c3 hf1
    have HB := HA.trans ha2
    have hc2 : w.heap.size ≤ w2.heap.size := HB.2.size
    have hb2 : b < w2.heap.size := by omega
    have HS3 := HB.alloc (.cells #[.int .i64 kind, .int .i64 0, .string ⟨#[]⟩, .string ⟨#[]⟩, .slice none 0 0, .pointer none] 450)
    have hg3 := grownBy_refl (w2.alloc (.cells #[.int .i64 kind, .int .i64 0, .string ⟨#[]⟩, .string ⟨#[]⟩, .slice none 0 0, .pointer none] 450)) (some b)
    go_wp2_with fail
    refine (expr_bad b v ts (p + 1 : Nat) _ (d + 1) _ HS3.1 (HS3.row hr) (by omega) hs).mono ?_
    rintro e w4 ⟨⟨x4, rfl⟩, ha4⟩
    have hblk := made_kept hb2 (hg3.trans ha4.2)
    have hz4 := lt_of_block hblk
    have cc := cell_of_block (i := 4) hblk rfl
    have fc := free_of_block (i := 4) hblk
    have HS4 := HS3.trans ha4
    go_wp2_with fail
    have HS5 : After w b v (p + 1 : Nat) true (max deep (d + 1)) ((w4.setCell ⟨w2.heap.size, 4, none⟩ (.slice (some ⟨w4.heap.size, 0, none⟩) 1 1)).alloc (.cells #[.pointer (some x4)] 386)) := (HS4.set_new _ hc2 hblt).alloc _
    refine (must_bad b v ts (p + 1 : Nat) _ _ _ HS5.1 (HS5.row hr) (by omega) (by omega) (by omega)).mono ?_
    rintro e w6 ⟨rfl, ha6⟩
    go_wp2_with fail
    go_ret
    rw [hres.out]
    exact ⟨⟨_, rfl⟩, _, _, by omega, by rw [hfar.out]; omega, HS5.trans ha6⟩

set_option maxHeartbeats 4000000 in
theorem agg_count (f : Nat) (ih : ExprOk f) (b : Nat) (v : Value) (ts : List ByteArray) (p : Nat) (deep d : Int) (w : World) (h : ScanIs w b v p false deep) (hr : RowIs w b v ts) (hp : p < ts.length) (hs : Small ts) (hd0 : 0 ≤ d) (hd1 : d + (f + 1 : Nat) ≤ 10000) (hf : f + 1 ≤ 10000) (hn : 8 * (Kds ts p).length + 1 ≤ f + 1) (hd : d ≤ deep) :
    Calls Tryz.prog 389 #[.pointer (some ⟨b, 0, none⟩), .int .i64 9, .int .i64 d] w fun e w' => Ptr e ∧ Out w b v ts p deep (Far ts (f + 1)) w' (AggRes f (Kds ts (p + 1)) d true) := by
  have hs1 := hs.1
  rw [Kds_len'] at hn
  have hfar : Hid (Far ts (f + 1) = (ts.length : Int) + 4 * (f + 1 : Nat) + 4) := hide rfl
  have hfar0 : Hid (Far ts f = (ts.length : Int) + 4 * f + 4) := hide rfl
  generalize hR : AggRes f (Kds ts (p + 1)) d true = res
  rw [AggRes, must_Kds ts (p + 1) 4 (by decide)] at hR
  have HR := hide hR
  clear hR
  obtain ⟨c0, c1, c2, c3⟩ := h.cells
  have hf1 := h.free 1
  have IH := hide ih
  clear ih
  have HA : After w b v (p + 1 : Nat) false deep (w.setCell ⟨b, 1, none⟩ (.int .i64 ((p : Int) + 1))) := ⟨h.set1 _, grownBy_set _ _ _ _⟩
  have hblt := h.lt
  go_enter Tryz.func389, Tryz.ntmps389
  go_wp2_with fail
  refine (must_any b v ts (p + 1) 4 deep _ _ (by decide) (by decide) (by decide) HA.1 (HA.row hr) (by omega) hs).mono ?_
  rintro e w2 ⟨rfl, ⟨k2, hp2, ha2⟩ | ⟨k2, ha2⟩⟩
  · have HR2a : Hid (res = if (Kds ts (p + 1 + 1)).headD 0 = 13 then (must 5 (Kds ts (p + 1 + 1)).tail).bind fun k2 => some (k2, d) else (R f 0 (Kds ts (p + 1 + 1)) (d + 1)).bind fun x => (must 5 x.1).bind fun k3 => some (k3, max d x.2)) := hide (HR.out.symm.trans (by rw [if_pos k2, Option.bind_some]; simp only [true_and]))
    clear k2 c0 c1 c2 c3 hf1
    have HB := HA.trans ha2
    have hc2 : w.heap.size ≤ w2.heap.size := HB.2.size
    have hb2 : b < w2.heap.size := by omega
    have HS2 := HB.alloc (.cells #[.int .i64 9, .int .i64 0, .string ⟨#[]⟩, .string ⟨#[]⟩, .slice none 0 0, .pointer none] 450)
    go_wp2_with fail
    refine (look_any b v ts (p + 1 + 1 : Nat) false _ _ HS2.1 (HS2.row hr) (by omega) (by omega)).mono ?_
    rintro e w3 ⟨rfl, ha3⟩
    have HS3 := HS2.trans ha3
    have hg3 : (w2.alloc (.cells #[.int .i64 9, .int .i64 0, .string ⟨#[]⟩, .string ⟨#[]⟩, .slice none 0 0, .pointer none] 450)).grownBy w3 (some b) := ha3.2
    obtain ⟨k3, hk3⟩ : ∃ k, kAt ts (p + 1 + 1) = k := ⟨_, rfl⟩
    have hK3 : KindIs (tokAt ts (p + 1 + 1 : Nat)) k3 := (kAt_tok ts (p + 1 + 1)).symm.trans hk3
    by_cases h13 : k3 = 13
    · subst h13
      have hlt3 : p + 1 + 1 < ts.length := kAt_lt (by omega)
      have HR2 : Hid (res = (must 5 (Kds ts (p + 1 + 1 + 1))).bind fun k2 => some (k2, d)) := hide (HR2a.out.trans (by rw [if_pos (by exact hk3), Kds_tail]))
      have g1 := litT hK3 (by decide) (by decide) [42] (by decide)
      clear hk3
      obtain ⟨c0, c1, c2, c3⟩ := HS3.1.cells
      have hf1 := HS3.1.free 1
      generalize tokAt ts (p + 1 + 1 : Nat) = s3 at *
      go_wp2_with fail
      have HS4 : After w b v (p + 1 + 1 + 1 : Nat) false deep (w3.setCell ⟨b, 1, none⟩ (.int .i64 (((p + 1 + 1 : Nat) : Int) + 1))) := ⟨HS3.1.set1 _, HS3.2.trans (grownBy_set _ _ _ _)⟩
      refine (must_any b v ts (p + 1 + 1 + 1) 5 _ _ _ (by decide) (by decide) (by decide) HS4.1 (HS4.row hr) (by omega) hs).mono ?_
      rintro e w6 ⟨rfl, ⟨k6, hp6, ha6⟩ | ⟨k6, ha6⟩⟩
      · have hres : Hid (res = some (Kds ts (p + 1 + 1 + 1 + 1), d)) := hide (by rw [HR2.out, must_Kds ts (p + 1 + 1 + 1) 5 (by decide), if_pos k6]; rfl)
        clear k6
        go_wp2_with fail
        go_ret
        rw [hres.out]
        refine ⟨⟨_, rfl⟩, p + 1 + 1 + 1 + 1, rfl, by omega, hp6, ?_⟩
        rw [show max deep d = deep by omega]
        exact HS4.trans ha6
      · have hres : Hid (res = none) := hide (by rw [HR2.out, must_Kds ts (p + 1 + 1 + 1) 5 (by decide), if_neg k6]; rfl)
        clear k6
        go_wp2_with fail
        go_ret
        rw [hres.out]
        exact ⟨⟨_, rfl⟩, _, _, by omega, by rw [hfar.out]; omega, HS4.trans ha6⟩
    · have HR2 : Hid (res = (R f 0 (Kds ts (p + 1 + 1)) (d + 1)).bind fun x => (must 5 x.1).bind fun k3 => some (k3, max d x.2)) := hide (HR2a.out.trans (by rw [if_neg (by rw [show (Kds ts (p + 1 + 1)).headD 0 = k3 from hk3]; exact h13)]))
      have g1 := litF hK3 13 (by decide) (by decide) [42] (by decide) h13
      clear hk3
      generalize tokAt ts (p + 1 + 1 : Nat) = s3 at *
      go_wp2_with fail
      refine (IH.out b v ts (p + 1 + 1) _ (d + 1) _ HS3.1 (HS3.row hr) (by omega) hs (by omega) (by omega) (by omega) (by rw [Kds_len']; omega)).mono ?_
      rintro e w4 ⟨⟨x4, rfl⟩, ho4⟩
      generalize hr4 : R f 0 (Kds ts (p + 1 + 1)) (d + 1) = r4 at ho4
      have HR4 := hide hr4
      clear hr4
      match r4, ho4 with
      | none, ⟨p4, d4, h04, h14, ha4⟩ =>
        have hp4 : p4 ≤ (ts.length : Int) + 4 * f + 4 := by rw [← hfar0.out]; exact h14
        have hblk := made_kept hb2 (hg3.trans ha4.2)
        have hz4 := lt_of_block hblk
        have cc := cell_of_block (i := 4) hblk rfl
        have fc := free_of_block (i := 4) hblk
        have hres : Hid (res = none) := hide (by rw [HR2.out, HR4.out]; rfl)
        have HS4 := HS3.trans ha4
        go_wp2_with fail
        have HS5 : After w b v p4 true d4 ((w4.setCell ⟨w2.heap.size, 4, none⟩ (.slice (some ⟨w4.heap.size, 0, none⟩) 1 1)).alloc (.cells #[.pointer (some x4)] 386)) := (HS4.set_new _ hc2 hblt).alloc _
        refine (must_bad b v ts p4 _ _ _ HS5.1 (HS5.row hr) h04 (by omega) (by omega)).mono ?_
        rintro e w6 ⟨rfl, ha6⟩
        go_wp2_with fail
        go_ret
        rw [hres.out]
        exact ⟨⟨_, rfl⟩, _, _, h04, by rw [hfar.out]; omega, HS5.trans ha6⟩
      | some (ks4, m4), ⟨p4, hk4, hge4, hp4, ha4⟩ =>
        subst hk4
        have hblk := made_kept hb2 (hg3.trans ha4.2)
        have hz4 := lt_of_block hblk
        have cc := cell_of_block (i := 4) hblk rfl
        have fc := free_of_block (i := 4) hblk
        have HS4 := HS3.trans ha4
        go_wp2_with fail
        have HS5 : After w b v p4 false (max deep m4) ((w4.setCell ⟨w2.heap.size, 4, none⟩ (.slice (some ⟨w4.heap.size, 0, none⟩) 1 1)).alloc (.cells #[.pointer (some x4)] 386)) := (HS4.set_new _ hc2 hblt).alloc _
        refine (must_any b v ts p4 5 _ _ _ (by decide) (by decide) (by decide) HS5.1 (HS5.row hr) hp4 hs).mono ?_
        rintro e w6 ⟨rfl, ⟨k6, hp6, ha6⟩ | ⟨k6, ha6⟩⟩
        · have hres : Hid (res = some (Kds ts (p4 + 1), max d m4)) := hide (by rw [HR2.out, HR4.out, Option.bind_some, must_Kds ts p4 5 (by decide), if_pos k6]; rfl)
          clear k6
          go_wp2_with fail
          go_ret
          rw [hres.out]
          refine ⟨⟨_, rfl⟩, p4 + 1, rfl, by omega, hp6, ?_⟩
          rw [show max deep (max d m4) = max deep m4 by omega]
          exact HS5.trans ha6
        · have hres : Hid (res = none) := hide (by rw [HR2.out, HR4.out, Option.bind_some, must_Kds ts p4 5 (by decide), if_neg k6]; rfl)
          clear k6
          go_wp2_with fail
          go_ret
          rw [hres.out]
          exact ⟨⟨_, rfl⟩, _, _, by omega, by rw [hfar.out]; omega, HS5.trans ha6⟩
  · have hres : Hid (res = none) := hide (by rw [← HR.out, if_neg k2]; rfl)
    clear k2 c0 c1 c2 c3 hf1
    have HB := HA.trans ha2
    have hc2 : w.heap.size ≤ w2.heap.size := HB.2.size
    have hb2 : b < w2.heap.size := by omega
    have HS2 := HB.alloc (.cells #[.int .i64 9, .int .i64 0, .string ⟨#[]⟩, .string ⟨#[]⟩, .slice none 0 0, .pointer none] 450)
    go_wp2_with fail
    refine (look_any b v ts (p + 1 : Nat) true _ _ HS2.1 (HS2.row hr) (by omega) (by omega)).mono ?_
    rintro e w3 ⟨rfl, ha3⟩
    have HS3 := HS2.trans ha3
    have hg3 : (w2.alloc (.cells #[.int .i64 9, .int .i64 0, .string ⟨#[]⟩, .string ⟨#[]⟩, .slice none 0 0, .pointer none] 450)).grownBy w3 (some b) := ha3.2
    obtain ⟨c0, c1, c2, c3⟩ := HS3.1.cells
    have hf1 := HS3.1.free 1
    generalize tokAt ts (p + 1 : Nat) = s3 at *
    cases g1 : (s3.toList == [42])
    · go_wp2_with fail
      refine (expr_bad b v ts (p + 1 : Nat) _ (d + 1) _ HS3.1 (HS3.row hr) (by omega) hs).mono ?_
      rintro e w4 ⟨⟨x4, rfl⟩, ha4⟩
      have hblk := made_kept hb2 (hg3.trans ha4.2)
      have hz4 := lt_of_block hblk
      have cc := cell_of_block (i := 4) hblk rfl
      have fc := free_of_block (i := 4) hblk
      have HS4 := HS3.trans ha4
      go_wp2_with fail
      have HS5 : After w b v (p + 1 : Nat) true (max deep (d + 1)) ((w4.setCell ⟨w2.heap.size, 4, none⟩ (.slice (some ⟨w4.heap.size, 0, none⟩) 1 1)).alloc (.cells #[.pointer (some x4)] 386)) := (HS4.set_new _ hc2 hblt).alloc _
      refine (must_bad b v ts (p + 1 : Nat) _ _ _ HS5.1 (HS5.row hr) (by omega) (by omega) (by omega)).mono ?_
      rintro e w6 ⟨rfl, ha6⟩
      go_wp2_with fail
      go_ret
      rw [hres.out]
      exact ⟨⟨_, rfl⟩, _, _, by omega, by rw [hfar.out]; omega, HS5.trans ha6⟩
    · go_wp2_with fail
      have HS4 : After w b v (((p + 1 : Nat) : Int) + 1) true deep (w3.setCell ⟨b, 1, none⟩ (.int .i64 (((p + 1 : Nat) : Int) + 1))) := ⟨HS3.1.set1 _, HS3.2.trans (grownBy_set _ _ _ _)⟩
      refine (must_bad b v ts (((p + 1 : Nat) : Int) + 1) _ _ _ HS4.1 (HS4.row hr) (by omega) (by omega) (by omega)).mono ?_
      rintro e w6 ⟨rfl, ha6⟩
      go_wp2_with fail
      go_ret
      rw [hres.out]
      exact ⟨⟨_, rfl⟩, _, _, by omega, by rw [hfar.out]; omega, HS4.trans ha6⟩
end Go.Proofs.YtbkeflgafjnefaaGreatDoor
namespace Go.Proofs.YtbkeflgafjnefaaGreatDoor
open Go.RowKit
open Trib

theorem R_agg {f : Nat} {ks : List Nat} {d : Int} (h : 26 ≤ ks.headD 0 ∧ ks.headD 0 ≤ 29) : R (f + 1) 0 ks d = AggRes f ks.tail d (decide (ks.headD 0 = 26)) := by
  rw [R, if_neg (by omega), if_pos h, AggRes]
  simp only [decide_eq_true_eq]

theorem AggRes_ge {f : Nat} {ks ks' : List Nat} {d m : Int} {c : Bool} (h : AggRes f ks d c = some (ks', m)) : d ≤ m := by
  unfold AggRes at h
  obtain ⟨k1, _, h⟩ := Option.bind_eq_some_iff.1 h
  by_cases hc : c = true ∧ k1.headD 0 = 13
  · rw [if_pos hc] at h
    obtain ⟨k2, _, h⟩ := Option.bind_eq_some_iff.1 h
    simp at h; omega
  · rw [if_neg hc] at h
    obtain ⟨x, _, h⟩ := Option.bind_eq_some_iff.1 h
    obtain ⟨k3, _, h⟩ := Option.bind_eq_some_iff.1 h
    simp at h; omega
theorem outDeep {w w2 w' : World} {b : Nat} {v : Value} {ts : List ByteArray} {p0 : Nat} {p deep d B : Int} {f : Nat} {ks : List Nat} {c : Bool} (ha : After w b v p false (max deep d) w2) (h : Out w2 b v ts p0 (max deep d) B w' (AggRes f ks d c)) : Out w b v ts p0 deep B w' (AggRes f ks d c) := by
  cases hr : AggRes f ks d c with
  | none => rw [hr] at h; obtain ⟨p', d', h0, h1, h2⟩ := h; exact ⟨p', d', h0, h1, ha.trans h2⟩
  | some x =>
    obtain ⟨k, m⟩ := x
    have hm := AggRes_ge hr
    rw [hr] at h
    obtain ⟨p', h0, h00, h1, h2⟩ := h
    refine ⟨p', h0, h00, h1, ?_⟩
    rw [show max deep m = max (max deep d) m by omega]
    exact ha.trans h2

set_option maxHeartbeats 4000000 in
theorem expr_agg (f : Nat) (ih : ExprOk f) (k : Nat) (hkk : k = 26 ∨ k = 27 ∨ k = 28 ∨ k = 29) (b : Nat) (v : Value) (ts : List ByteArray) (p : Nat) (deep d : Int) (w : World) (h : ScanIs w b v p false deep) (hr : RowIs w b v ts) (hs : Small ts) (hd0 : 0 ≤ d) (hd1 : d + (f + 1 : Nat) ≤ 10000) (hf : f + 1 ≤ 10000) (hn : 8 * (Kds ts p).length + 1 ≤ f + 1)
    (hk : kAt ts p = k) :
    Calls Tryz.prog 325 #[.pointer (some ⟨b, 0, none⟩), .int .i64 d] w fun e w' => Ptr e ∧ Out w b v ts p deep (Far ts (f + 1)) w' (R (f + 1) 0 (Kds ts p) d) := by
  have hs1 := hs.1
  have hlt : p < ts.length := kAt_lt (by omega)
  rw [R_agg (by rw [show (Kds ts p).headD 0 = k from hk]; omega), Kds_tail, show (Kds ts p).headD 0 = k from hk]
  have hK : KindIs (tokAt ts p) k := (kAt_tok ts p).symm.trans hk
  have h0 := nonempty_of hK (by omega)
  have hsz := hs.tok p
  have fe : (tokAt ts p).toList.isEmpty = false := by rw [empty_fact, decide_eq_false_iff_not]; omega
  have g1 := litF hK 24 (by decide) (by decide) [110, 117, 108, 108] (by decide) (by omega)
  have g2 := litF hK 30 (by decide) (by decide) [110, 111, 119] (by decide) (by omega)
  have hN := hide (fun w => number_kind hK hsz w)
  have AC := hide (fun w h hr hd => agg_count f ih b v ts p (max deep d) d w h hr hlt hs hd0 hd1 hf hn hd)
  have AO := hide (fun kind w h hr hd hkd => agg_other f ih b v ts p kind (max deep d) d w h hr hlt hs hd0 hd1 hf hn hd hkd)
  clear hk ih hn
  go_enter Tryz.func325, Tryz.ntmps325
  go_wp2_with fail
  refine (deep_any b v p false deep d _ h).mono ?_
  rintro e w1 ⟨rfl, ha1⟩
  have hr1 := ha1.row hr
  go_wp2_with fail
  refine (look_any b v ts p false _ _ ha1.1 hr1 (by omega) (by omega)).mono ?_
  rintro e w2 ⟨rfl, ha2⟩
  obtain ⟨c0, c1, c2, c3⟩ := ha2.1.cells
  have hr2 := ha2.row hr1
  have HB := ha1.trans ha2
  generalize tokAt ts p = s at *
  rcases hkk with rfl | rfl | rfl | rfl
  · have g3 := litT hK (by decide) (by decide) [99, 111, 117, 110, 116] (by decide)
    go_wp2_with (go_at_call 232; refine (hN.out _).mono ?_; rintro e w3 ⟨n, rfl, rfl⟩)
    refine (AC.out _ ha2.1 hr2 (by omega)).mono ?_
    rintro e w4 ⟨⟨x4, rfl⟩, ho4⟩
    go_wp2_with fail
    go_ret
    exact ⟨⟨_, rfl⟩, outDeep HB ho4⟩
  · have g3 := litF hK 26 (by decide) (by decide) [99, 111, 117, 110, 116] (by decide) (by omega)
    have g4 := litT hK (by decide) (by decide) [115, 117, 109] (by decide)
    go_wp2_with (go_at_call 232; refine (hN.out _).mono ?_; rintro e w3 ⟨n, rfl, rfl⟩)
    refine (AO.out _ _ ha2.1 hr2 (by omega) (by decide)).mono ?_
    rintro e w4 ⟨⟨x4, rfl⟩, ho4⟩
    go_wp2_with fail
    go_ret
    exact ⟨⟨_, rfl⟩, outDeep HB ho4⟩
  · have g3 := litF hK 26 (by decide) (by decide) [99, 111, 117, 110, 116] (by decide) (by omega)
    have g4 := litF hK 27 (by decide) (by decide) [115, 117, 109] (by decide) (by omega)
    have g5 := litT hK (by decide) (by decide) [109, 105, 110] (by decide)
    go_wp2_with (go_at_call 232; refine (hN.out _).mono ?_; rintro e w3 ⟨n, rfl, rfl⟩)
    refine (AO.out _ _ ha2.1 hr2 (by omega) (by decide)).mono ?_
    rintro e w4 ⟨⟨x4, rfl⟩, ho4⟩
    go_wp2_with fail
    go_ret
    exact ⟨⟨_, rfl⟩, outDeep HB ho4⟩
  · have g3 := litF hK 26 (by decide) (by decide) [99, 111, 117, 110, 116] (by decide) (by omega)
    have g4 := litF hK 27 (by decide) (by decide) [115, 117, 109] (by decide) (by omega)
    have g5 := litF hK 28 (by decide) (by decide) [109, 105, 110] (by decide) (by omega)
    have g6 := litT hK (by decide) (by decide) [109, 97, 120] (by decide)
    go_wp2_with (go_at_call 232; refine (hN.out _).mono ?_; rintro e w3 ⟨n, rfl, rfl⟩)
    refine (AO.out _ _ ha2.1 hr2 (by omega) (by decide)).mono ?_
    rintro e w4 ⟨⟨x4, rfl⟩, ho4⟩
    go_wp2_with fail
    go_ret
    exact ⟨⟨_, rfl⟩, outDeep HB ho4⟩

theorem expr_all : ∀ f, ExprOk f := by
  intro f
  induction f with
  | zero => intro b v ts p deep d w _ _ _ _ _ _ _ hn; omega
  | succ f ih =>
    intro b v ts p deep d w h hr hp hs hd0 hd1 hf hn
    by_cases h1 : kAt ts p = 24 ∨ kAt ts p = 30 ∨ kAt ts p = 2 ∨ kAt ts p = 3
    · exact expr_leaf f _ h1 b v ts p deep d w h hr hp hs rfl
    · by_cases h2 : 26 ≤ kAt ts p ∧ kAt ts p ≤ 29
      · exact expr_agg f ih _ (by omega) b v ts p deep d w h hr hs hd0 hd1 hf hn rfl
      · by_cases h3 : kAt ts p = 4
        · exact expr_open f ih b v ts p deep d w h hr hp hs hd0 hd1 hf hn h3
        · exact expr_col f b v ts p deep d w h hr hp hs h1 h2 h3
end Go.Proofs.YtbkeflgafjnefaaGreatDoor
namespace Go.Proofs.YtbkeflgafjnefaaGreatDoor
open Go.RowKit
open Trib

/-- The scan over a bracket, one token on. -/
theorem joint_step (o : Int) (k : Nat) (r : List Nat) : jointL o (k :: r) = if (k = 20 ∨ k = 21) ∧ o = 1 then true else if (if k = 4 then o + 1 else if k = 5 then o - 1 else o) = 0 then false else jointL (if k = 4 then o + 1 else if k = 5 then o - 1 else o) r := rfl
theorem joint_open (o : Int) (r : List Nat) : jointL o (4 :: r) = if o + 1 = 0 then false else jointL (o + 1) r := by simp [joint_step]
theorem joint_close (o : Int) (r : List Nat) : jointL o (5 :: r) = if o - 1 = 0 then false else jointL (o - 1) r := by simp [joint_step]
theorem joint_plain (o : Int) (k : Nat) (r : List Nat) (h4 : k ≠ 4) (h5 : k ≠ 5) : jointL o (k :: r) = if (k = 20 ∨ k = 21) ∧ o = 1 then true else if o = 0 then false else jointL o r := by
  rw [joint_step, if_neg h4, if_neg h5]
/-- Under a name: what is still to be found. -/
def JointIs (ts : List ByteArray) (p j : Nat) (o : Int) : Prop := jointL 0 (Kds ts p) = jointL o (Kds ts j)

set_option maxHeartbeats 4000000 in
theorem joint_any (b : Nat) (v : Value) (ts : List ByteArray) (p : Nat) (deep : Int) (w : World) (h : ScanIs w b v p false deep) (hr : RowIs w b v ts) (hp : p ≤ ts.length) (hs : Small ts) :
    Calls Tryz.prog 390 #[.pointer (some ⟨b, 0, none⟩)] w fun e w' => e = .returned (.bool (jointL 0 (Kds ts p))) ∧ After w b v p false deep w' := by
  have hs1 := hs.1
  obtain ⟨c0, c1, c2, c3⟩ := h.cells
  obtain ⟨a, cap, rfl⟩ := hr.len
  generalize hJ : jointL 0 (Kds ts p) = J
  have HJ := hide hJ
  clear hJ
  go_enter Tryz.func390, Tryz.ntmps390
  go_wp2_with fail
  go_loop [3, 4] (fun o i => ∃ (j : Nat) (n : Int), p ≤ j ∧ j ≤ ts.length ∧ i = .int .i64 j ∧ o = .int .i64 n ∧ -(j : Int) ≤ n ∧ n ≤ j ∧ JointIs ts p j n) (fun _ i => ts.length - (intOf i).toNat)
  case atStart => exact ⟨p, 0, Nat.le_refl _, hp, rfl, rfl, by omega, by omega, rfl⟩
  case round =>
    obtain ⟨j, n, hj1, hj2, rfl, rfl, hn1, hn2, hin⟩ := hrel
    by_cases hlt : j < ts.length
    · obtain ⟨g, cap', hv, hc⟩ := hr.cell j hlt
      obtain ⟨rfl, rfl⟩ : a = some ⟨g, 0, none⟩ ∧ cap = cap' := by simpa using hv
      clear hv
      have hlt' : (j : Int) < (ts.length : Int) := by omega
      obtain ⟨k, hk⟩ : ∃ k, kAt ts j = k := ⟨_, rfl⟩
      have hK : KindIs (tokAt ts j) k := (kAt_tok ts j).symm.trans hk
      have hk' : kindOf (tokAt ts j).data.toList = k := hK
      rw [JointIs, Kds_lt hlt, hk'] at hin
      have HIN := hide hin
      clear hin hk hk'
      generalize tokAt ts j = s at *
      by_cases e4 : k = 4
      · subst e4
        have g1 := litT hK (by decide) (by decide) [40] (by decide)
        by_cases hz : n + 1 = 0
        · have hz' : (n + 1 == 0) = true := by simpa using hz
          have hJf : Hid (J = false) := hide (by rw [← HJ.out, HIN.out, joint_open, if_pos hz])
          go_wp2_with fail
          go_ret
          exact ⟨by rw [hJf.out]; rfl, h, grownBy_refl _ _⟩
        · have hz' : (n + 1 == 0) = false := by simpa using hz
          have HI : JointIs ts p (j + 1) (n + 1) := by rw [JointIs, HIN.out, joint_open, if_neg hz]
          go_wp2_with fail
          go_round
          case rel => exact ⟨j + 1, n + 1, by omega, by omega, by go_num, rfl, by omega, by omega, HI⟩
          case measure => simp [intOf]; omega
      have g1 := litF hK 4 (by decide) (by decide) [40] (by decide) e4
      by_cases e5 : k = 5
      · subst e5
        have g2 := litT hK (by decide) (by decide) [41] (by decide)
        by_cases hz : n - 1 = 0
        · have hz' : (n - 1 == 0) = true := by simpa using hz
          have hJf : Hid (J = false) := hide (by rw [← HJ.out, HIN.out, joint_close, if_pos hz])
          go_wp2_with fail
          go_ret
          exact ⟨by rw [hJf.out]; rfl, h, grownBy_refl _ _⟩
        · have hz' : (n - 1 == 0) = false := by simpa using hz
          have HI : JointIs ts p (j + 1) (n - 1) := by rw [JointIs, HIN.out, joint_close, if_neg hz]
          go_wp2_with fail
          go_round
          case rel => exact ⟨j + 1, n - 1, by omega, by omega, by go_num, rfl, by omega, by omega, HI⟩
          case measure => simp [intOf]; omega
      have g2 := litF hK 5 (by decide) (by decide) [41] (by decide) e5
      have HIN2 : Hid (jointL 0 (Kds ts p) = if (k = 20 ∨ k = 21) ∧ n = 1 then true else if n = 0 then false else jointL n (Kds ts (j + 1))) := hide (by rw [HIN.out, joint_plain _ _ _ e4 e5])
      by_cases e1 : (k = 20 ∨ k = 21) ∧ n = 1
      · obtain ⟨e1, rfl⟩ := e1
        have hJf : Hid (J = true) := hide (by rw [← HJ.out, HIN2.out, if_pos ⟨e1, rfl⟩])
        rcases e1 with rfl | rfl
        · have g3 := litT hK (by decide) (by decide) [97, 110, 100] (by decide)
          go_wp2_with fail
          go_ret
          exact ⟨by rw [hJf.out]; rfl, h, grownBy_refl _ _⟩
        · have g3 := litF hK 20 (by decide) (by decide) [97, 110, 100] (by decide) (by decide)
          have g4 := litT hK (by decide) (by decide) [111, 114] (by decide)
          go_wp2_with fail
          go_ret
          exact ⟨by rw [hJf.out]; rfl, h, grownBy_refl _ _⟩
      by_cases hz : n = 0
      · have hJf : Hid (J = false) := hide (by rw [← HJ.out, HIN2.out, if_neg e1, if_pos hz])
        have hz' : (n == 0) = true := by simpa using hz
        have hz1 : (n == 1) = false := by rw [beq_eq_false_iff_ne]; omega
        by_cases e20 : k = 20
        · subst e20
          have g3 := litT hK (by decide) (by decide) [97, 110, 100] (by decide)
          go_wp2_with fail
          go_ret
          exact ⟨by rw [hJf.out]; rfl, h, grownBy_refl _ _⟩
        have g3 := litF hK 20 (by decide) (by decide) [97, 110, 100] (by decide) e20
        by_cases e21 : k = 21
        · subst e21
          have g4 := litT hK (by decide) (by decide) [111, 114] (by decide)
          go_wp2_with fail
          go_ret
          exact ⟨by rw [hJf.out]; rfl, h, grownBy_refl _ _⟩
        have g4 := litF hK 21 (by decide) (by decide) [111, 114] (by decide) e21
        go_wp2_with fail
        go_ret
        exact ⟨by rw [hJf.out]; rfl, h, grownBy_refl _ _⟩
      · have hz' : (n == 0) = false := by simpa using hz
        have HI : JointIs ts p (j + 1) n := by rw [JointIs, HIN2.out, if_neg e1, if_neg hz]
        by_cases e20 : k = 20
        · subst e20
          have hz1 : (n == 1) = false := by rw [beq_eq_false_iff_ne]; omega
          have g3 := litT hK (by decide) (by decide) [97, 110, 100] (by decide)
          go_wp2_with fail
          go_round
          case rel => exact ⟨j + 1, n, by omega, by omega, by go_num, rfl, by omega, by omega, HI⟩
          case measure => simp [intOf]; omega
        have g3 := litF hK 20 (by decide) (by decide) [97, 110, 100] (by decide) e20
        by_cases e21 : k = 21
        · subst e21
          have hz1 : (n == 1) = false := by rw [beq_eq_false_iff_ne]; omega
          have g4 := litT hK (by decide) (by decide) [111, 114] (by decide)
          go_wp2_with fail
          go_round
          case rel => exact ⟨j + 1, n, by omega, by omega, by go_num, rfl, by omega, by omega, HI⟩
          case measure => simp [intOf]; omega
        have g4 := litF hK 21 (by decide) (by decide) [111, 114] (by decide) e21
        go_wp2_with fail
        · go_round
          case rel => exact ⟨j + 1, n, by omega, by omega, by go_num, rfl, by omega, by omega, HI⟩
          case measure => simp [intOf]; omega
    · have hJf : Hid (J = false) := hide (by rw [← HJ.out, show jointL 0 (Kds ts p) = jointL n (Kds ts j) from hin, Kds_ge hlt]; rfl)
      have hlt' : ((j : Int) < (ts.length : Int)) = False := by simp; omega
      go_wp2_with fail
      go_ret
      exact ⟨by rw [hJf.out]; rfl, h, grownBy_refl _ _⟩
end Go.Proofs.YtbkeflgafjnefaaGreatDoor
namespace Go.Proofs.YtbkeflgafjnefaaGreatDoor
open Go.RowKit
open Trib

def CondOk (f : Nat) : Prop := ∀ (b : Nat) (v : Value) (ts : List ByteArray) (p : Nat) (deep d : Int) (w : World), ScanIs w b v p false deep → RowIs w b v ts → p ≤ ts.length → Small ts → 0 ≤ d → d + f ≤ 10000 → f ≤ 10000 → 8 * (Kds ts p).length + 3 ≤ f →
  Calls Tryz.prog 327 #[.pointer (some ⟨b, 0, none⟩), .int .i64 d] w fun e w' => Ptr e ∧ Out w b v ts p deep (Far ts f) w' (R f 1 (Kds ts p) d)
def QueryOk (f : Nat) : Prop := ∀ (b : Nat) (v : Value) (ts : List ByteArray) (p : Nat) (deep d : Int) (w : World), ScanIs w b v p false deep → RowIs w b v ts → p ≤ ts.length → Small ts → 0 ≤ d → d + f ≤ 10000 → f ≤ 10000 → 8 * (Kds ts p).length + 4 ≤ f →
  Calls Tryz.prog 234 #[.pointer (some ⟨b, 0, none⟩), .int .i64 d] w fun e w' => Ptr e ∧ Out w b v ts p deep (Far ts f) w' (R f 2 (Kds ts p) d)
def QueryBad : Prop := ∀ (b : Nat) (v : Value) (ts : List ByteArray) (p : Int) (deep d : Int) (w : World), ScanIs w b v p true deep → RowIs w b v ts → 0 ≤ p → p ≤ 100000 → Small ts →
    Calls Tryz.prog 234 #[.pointer (some ⟨b, 0, none⟩), .int .i64 d] w fun e w' => Ptr e ∧ After w b v p true (max deep d) w'

/-- cond, where all is bad already. -/
theorem cond_bad (b : Nat) (v : Value) (ts : List ByteArray) (p : Int) (deep d : Int) (w : World) (h : ScanIs w b v p true deep) (hr : RowIs w b v ts) (hp : 0 ≤ p) (hs : Small ts) :
    Calls Tryz.prog 327 #[.pointer (some ⟨b, 0, none⟩), .int .i64 d] w fun e w' => Ptr e ∧ After w b v p true (max deep d) w' := by
  have hs1 := hs.1
  go_enter Tryz.func327, Tryz.ntmps327
  go_wp2_with fail
  refine (deep_any b v p true deep d _ h).mono ?_
  rintro e w1 ⟨rfl, ha1⟩
  have hr1 := ha1.row hr
  go_wp2_with fail
  refine (look_any b v ts p true _ _ ha1.1 hr1 hp (by omega)).mono ?_
  rintro e w2 ⟨rfl, ha2⟩
  obtain ⟨c0, c1, c2, c3⟩ := ha2.1.cells
  have hf2 := ha2.1.free 2
  go_wp2_with fail
  go_ret
  exact ⟨⟨_, rfl⟩, After.alloc ⟨ha2.1.set2 _, (ha1.2.trans ha2.2).trans (grownBy_set _ _ _ _)⟩ _⟩

theorem R_not {f : Nat} {ks : List Nat} {d : Int} (h : ks.headD 0 = 22) : R (f + 1) 1 ks d = (R f 1 ks.tail (d + 1)).bind fun x => some (x.1, max d x.2) := by
  rw [R, if_pos h]
theorem R_exists {f : Nat} {ks : List Nat} {d : Int} (h : ks.headD 0 = 25) : R (f + 1) 1 ks d = (must 4 ks.tail).bind fun k1 => (R f 2 k1 (d + 1)).bind fun x => (must 5 x.1).bind fun k3 => some (k3, max d x.2) := by
  rw [R, if_neg (by omega), if_pos h]
theorem R_joint {f : Nat} {ks : List Nat} {d : Int} (h : ks.headD 0 = 4) (hj : jointL 0 ks = true) : R (f + 1) 1 ks d = (R f 1 ks.tail (d + 1)).bind fun x => if x.1 = [] then none else (R f 1 x.1.tail (d + 1)).bind fun y => (must 5 y.1).bind fun k3 => some (k3, max d (max x.2 y.2)) := by
  rw [R, if_neg (by omega), if_neg (by omega), if_pos ⟨h, hj⟩]
theorem R_cmp {f : Nat} {ks : List Nat} {d : Int} (h1 : ks.headD 0 ≠ 22) (h2 : ks.headD 0 ≠ 25) (h3 : ¬ (ks.headD 0 = 4 ∧ jointL 0 ks = true)) (h4 : ks ≠ []) : R (f + 1) 1 ks d = (R f 0 ks (d + 1)).bind fun x =>
      if x.1.headD 0 = 8 ∨ x.1.headD 0 = 9 ∨ x.1.headD 0 = 10 then (R f 0 x.1.tail (d + 1)).bind fun y => some (y.1, max d (max x.2 y.2))
      else if x.1.headD 0 = 23 then (must 24 x.1.tail).bind fun k3 => some (k3, max d x.2) else none := by
  rw [R, if_neg h1, if_neg h2, if_neg h3, if_neg h4]

set_option maxHeartbeats 4000000 in
theorem cond_not (f : Nat) (ih : CondOk f) (b : Nat) (v : Value) (ts : List ByteArray) (p : Nat) (deep d : Int) (w : World) (h : ScanIs w b v p false deep) (hr : RowIs w b v ts) (hs : Small ts) (hd0 : 0 ≤ d) (hd1 : d + (f + 1 : Nat) ≤ 10000) (hf : f + 1 ≤ 10000) (hn : 8 * (Kds ts p).length + 3 ≤ f + 1)
    (hk : kAt ts p = 22) :
    Calls Tryz.prog 327 #[.pointer (some ⟨b, 0, none⟩), .int .i64 d] w fun e w' => Ptr e ∧ Out w b v ts p deep (Far ts (f + 1)) w' (R (f + 1) 1 (Kds ts p) d) := by
  have hs1 := hs.1
  have hlt : p < ts.length := kAt_lt (by omega)
  rw [Kds_len] at hn
  have hfar : Hid (Far ts (f + 1) = (ts.length : Int) + 4 * (f + 1 : Nat) + 4) := hide rfl
  have hfar0 : Hid (Far ts f = (ts.length : Int) + 4 * f + 4) := hide rfl
  generalize hR : R (f + 1) 1 (Kds ts p) d = res
  rw [R_not hk, Kds_tail] at hR
  have HR := hide hR
  clear hR
  have hK : KindIs (tokAt ts p) 22 := (kAt_tok ts p).symm.trans hk
  have h0 := nonempty_of hK (by omega)
  have fe : (tokAt ts p).toList.isEmpty = false := by rw [empty_fact, decide_eq_false_iff_not]; omega
  have g1 := litT hK (by decide) (by decide) [110, 111, 116] (by decide)
  have IH := hide ih
  clear hk ih
  go_enter Tryz.func327, Tryz.ntmps327
  go_wp2_with fail
  refine (deep_any b v p false deep d _ h).mono ?_
  rintro e w1 ⟨rfl, ha1⟩
  have hr1 := ha1.row hr
  go_wp2_with fail
  refine (look_any b v ts p false _ _ ha1.1 hr1 (by omega) (by omega)).mono ?_
  rintro e w2 ⟨rfl, ha2⟩
  obtain ⟨c0, c1, c2, c3⟩ := ha2.1.cells
  have hf1 := ha2.1.free 1
  have hr2 := ha2.row hr1
  have HA : After w b v (p + 1 : Nat) false (max deep d) (w2.setCell ⟨b, 1, none⟩ (.int .i64 ((p : Int) + 1))) := ⟨ha2.1.set1 _, (ha1.2.trans ha2.2).trans (grownBy_set _ _ _ _)⟩
  generalize tokAt ts p = s at *
  go_wp2_with fail
  refine (IH.out b v ts (p + 1) _ (d + 1) _ HA.1 (HA.row hr) (by omega) hs (by omega) (by omega) (by omega) (by rw [Kds_len]; omega)).mono ?_
  rintro e w4 ⟨⟨x4, rfl⟩, ho4⟩
  generalize hr4 : R f 1 (Kds ts (p + 1)) (d + 1) = r4 at ho4
  have HR4 := hide hr4
  clear hr4
  match r4, ho4 with
  | none, ⟨p4, d4, h04, h14, ha4⟩ =>
    have hp4 : p4 ≤ (ts.length : Int) + 4 * f + 4 := by rw [← hfar0.out]; exact h14
    have hres : Hid (res = none) := hide (by rw [← HR.out, HR4.out]; rfl)
    go_wp2_with fail
    go_ret
    rw [hres.out]
    exact ⟨⟨_, rfl⟩, _, _, h04, by rw [hfar.out]; omega, ((HA.trans ha4).alloc _).alloc _⟩
  | some (ks4, m4), ⟨p4, hk4, hge4, hp4, ha4⟩ =>
    subst hk4
    have hres : Hid (res = some (Kds ts p4, max d m4)) := hide (by rw [← HR.out, HR4.out]; rfl)
    go_wp2_with fail
    go_ret
    rw [hres.out]
    refine ⟨⟨_, rfl⟩, p4, rfl, by omega, hp4, ?_⟩
    rw [show max deep (max d m4) = max (max deep d) m4 by omega]
    exact ((HA.trans ha4).alloc _).alloc _

set_option maxHeartbeats 4000000 in
theorem cond_exists (f : Nat) (ih : QueryOk f) (qb : QueryBad) (b : Nat) (v : Value) (ts : List ByteArray) (p : Nat) (deep d : Int) (w : World) (h : ScanIs w b v p false deep) (hr : RowIs w b v ts) (hs : Small ts) (hd0 : 0 ≤ d) (hd1 : d + (f + 1 : Nat) ≤ 10000) (hf : f + 1 ≤ 10000) (hn : 8 * (Kds ts p).length + 3 ≤ f + 1)
    (hk : kAt ts p = 25) :
    Calls Tryz.prog 327 #[.pointer (some ⟨b, 0, none⟩), .int .i64 d] w fun e w' => Ptr e ∧ Out w b v ts p deep (Far ts (f + 1)) w' (R (f + 1) 1 (Kds ts p) d) := by
  have hs1 := hs.1
  have hlt : p < ts.length := kAt_lt (by omega)
  rw [Kds_len] at hn
  have hfar : Hid (Far ts (f + 1) = (ts.length : Int) + 4 * (f + 1 : Nat) + 4) := hide rfl
  have hfar0 : Hid (Far ts f = (ts.length : Int) + 4 * f + 4) := hide rfl
  generalize hR : R (f + 1) 1 (Kds ts p) d = res
  rw [R_exists hk, Kds_tail, must_Kds ts (p + 1) 4 (by decide)] at hR
  have HR := hide hR
  clear hR
  have hK : KindIs (tokAt ts p) 25 := (kAt_tok ts p).symm.trans hk
  have h0 := nonempty_of hK (by omega)
  have fe : (tokAt ts p).toList.isEmpty = false := by rw [empty_fact, decide_eq_false_iff_not]; omega
  have g1 := litF hK 22 (by decide) (by decide) [110, 111, 116] (by decide) (by decide)
  have g2 := litT hK (by decide) (by decide) [101, 120, 105, 115, 116, 115] (by decide)
  have QB := hide qb
  clear qb
  have IH := hide ih
  clear hk ih
  go_enter Tryz.func327, Tryz.ntmps327
  go_wp2_with fail
  refine (deep_any b v p false deep d _ h).mono ?_
  rintro e w1 ⟨rfl, ha1⟩
  have hr1 := ha1.row hr
  go_wp2_with fail
  refine (look_any b v ts p false _ _ ha1.1 hr1 (by omega) (by omega)).mono ?_
  rintro e w2 ⟨rfl, ha2⟩
  obtain ⟨c0, c1, c2, c3⟩ := ha2.1.cells
  have hf1 := ha2.1.free 1
  have hr2 := ha2.row hr1
  have HA : After w b v (p + 1 : Nat) false (max deep d) (w2.setCell ⟨b, 1, none⟩ (.int .i64 ((p : Int) + 1))) := ⟨ha2.1.set1 _, (ha1.2.trans ha2.2).trans (grownBy_set _ _ _ _)⟩
  generalize tokAt ts p = s at *
  go_wp2_with fail
  clear g1 g2 fe c0 c1 c2 c3 hf1
  refine (must_any b v ts (p + 1) 4 _ _ _ (by decide) (by decide) (by decide) HA.1 (HA.row hr) (by omega) hs).mono ?_
  rintro e w3 ⟨rfl, ⟨k3, hp3, ha3⟩ | ⟨k3, ha3⟩⟩
  · have HR3 : Hid (res = (R f 2 (Kds ts (p + 1 + 1)) (d + 1)).bind fun x => (must 5 x.1).bind fun k3 => some (k3, max d x.2)) := hide (by rw [← HR.out, if_pos k3]; rfl)
    clear k3
    have HB := HA.trans ha3
    go_wp2_with fail
    refine (IH.out b v ts (p + 1 + 1) _ (d + 1) _ HB.1 (HB.row hr) (by omega) hs (by omega) (by omega) (by omega) (by rw [Kds_len]; omega)).mono ?_
    rintro e w4 ⟨⟨x4, rfl⟩, ho4⟩
    generalize hr4 : R f 2 (Kds ts (p + 1 + 1)) (d + 1) = r4 at ho4
    have HR4 := hide hr4
    clear hr4
    match r4, ho4 with
    | none, ⟨p4, d4, h04, h14, ha4⟩ =>
      have hp4 : p4 ≤ (ts.length : Int) + 4 * f + 4 := by rw [← hfar0.out]; exact h14
      have hres : Hid (res = none) := hide (by rw [HR3.out, HR4.out]; rfl)
      have HC := HB.trans ha4
      go_wp2_with fail
      refine (must_bad b v ts p4 _ _ _ HC.1 (HC.row hr) h04 (by omega) (by omega)).mono ?_
      rintro e w5 ⟨rfl, ha5⟩
      go_wp2_with fail
      go_ret
      rw [hres.out]
      exact ⟨⟨_, rfl⟩, _, _, h04, by rw [hfar.out]; omega, (HC.trans ha5).alloc _⟩
    | some (ks4, m4), ⟨p4, hk4, hge4, hp4, ha4⟩ =>
      subst hk4
      have HC := HB.trans ha4
      go_wp2_with fail
      refine (must_any b v ts p4 5 _ _ _ (by decide) (by decide) (by decide) HC.1 (HC.row hr) hp4 hs).mono ?_
      rintro e w5 ⟨rfl, ⟨k5, hp5, ha5⟩ | ⟨k5, ha5⟩⟩
      · have hres : Hid (res = some (Kds ts (p4 + 1), max d m4)) := hide (by rw [HR3.out, HR4.out, Option.bind_some, must_Kds ts p4 5 (by decide), if_pos k5]; rfl)
        clear k5
        go_wp2_with fail
        go_ret
        rw [hres.out]
        refine ⟨⟨_, rfl⟩, p4 + 1, rfl, by omega, hp5, ?_⟩
        rw [show max deep (max d m4) = max (max deep d) m4 by omega]
        exact (HC.trans ha5).alloc _
      · have hres : Hid (res = none) := hide (by rw [HR3.out, HR4.out, Option.bind_some, must_Kds ts p4 5 (by decide), if_neg k5]; rfl)
        clear k5
        go_wp2_with fail
        go_ret
        rw [hres.out]
        exact ⟨⟨_, rfl⟩, _, _, by omega, by rw [hfar.out]; omega, (HC.trans ha5).alloc _⟩
  · have hres : Hid (res = none) := hide (by rw [← HR.out, if_neg k3]; rfl)
    clear k3
    have HB := HA.trans ha3
    go_wp2_with fail
    refine (QB.out b v ts (p + 1 : Nat) _ (d + 1) _ HB.1 (HB.row hr) (by omega) (by omega) hs).mono ?_
    rintro e w4 ⟨⟨x4, rfl⟩, ha4⟩
    have HC := HB.trans ha4
    go_wp2_with fail
    refine (must_bad b v ts (p + 1 : Nat) _ _ _ HC.1 (HC.row hr) (by omega) (by omega) (by omega)).mono ?_
    rintro e w5 ⟨rfl, ha5⟩
    go_wp2_with fail
    go_ret
    rw [hres.out]
    exact ⟨⟨_, rfl⟩, _, _, by omega, by rw [hfar.out]; omega, (HC.trans ha5).alloc _⟩
end Go.Proofs.YtbkeflgafjnefaaGreatDoor
namespace Go.Proofs.YtbkeflgafjnefaaGreatDoor
open Go.RowKit
open Trib

/-- cond, behind the last token. -/
theorem cond_end (b : Nat) (v : Value) (ts : List ByteArray) (p : Int) (deep d : Int) (w : World) (h : ScanIs w b v p false deep) (hr : RowIs w b v ts) (hp : (ts.length : Int) ≤ p) (hs : Small ts) :
    Calls Tryz.prog 327 #[.pointer (some ⟨b, 0, none⟩), .int .i64 d] w fun e w' => Ptr e ∧ After w b v p true (max deep d) w' := by
  have hs1 := hs.1
  obtain ⟨n, rfl⟩ := Int.eq_ofNat_of_zero_le (show 0 ≤ p by omega)
  have he : (tokAt ts n).toList.isEmpty = true := by rw [tokAt_ge (by omega), empty_fact]; rfl
  go_enter Tryz.func327, Tryz.ntmps327
  go_wp2_with fail
  refine (deep_any b v n false deep d _ h).mono ?_
  rintro e w1 ⟨rfl, ha1⟩
  have hr1 := ha1.row hr
  go_wp2_with fail
  refine (look_any b v ts n false _ _ ha1.1 hr1 (by omega) (by omega)).mono ?_
  rintro e w2 ⟨rfl, ha2⟩
  obtain ⟨c0, c1, c2, c3⟩ := ha2.1.cells
  have hf2 := ha2.1.free 2
  generalize tokAt ts n = s at *
  go_wp2_with fail
  go_ret
  exact ⟨⟨_, rfl⟩, After.alloc ⟨ha2.1.set2 _, (ha1.2.trans ha2.2).trans (grownBy_set _ _ _ _)⟩ _⟩

set_option maxHeartbeats 4000000 in
theorem cond_joint (f : Nat) (ih : CondOk f) (b : Nat) (v : Value) (ts : List ByteArray) (p : Nat) (deep d : Int) (w : World) (h : ScanIs w b v p false deep) (hr : RowIs w b v ts) (hs : Small ts) (hd0 : 0 ≤ d) (hd1 : d + (f + 1 : Nat) ≤ 10000) (hf : f + 1 ≤ 10000) (hn : 8 * (Kds ts p).length + 3 ≤ f + 1)
    (hk : kAt ts p = 4) (hj : jointL 0 (Kds ts p) = true) :
    Calls Tryz.prog 327 #[.pointer (some ⟨b, 0, none⟩), .int .i64 d] w fun e w' => Ptr e ∧ Out w b v ts p deep (Far ts (f + 1)) w' (R (f + 1) 1 (Kds ts p) d) := by
  have hs1 := hs.1
  have hlt : p < ts.length := kAt_lt (by omega)
  rw [Kds_len] at hn
  have hfar : Hid (Far ts (f + 1) = (ts.length : Int) + 4 * (f + 1 : Nat) + 4) := hide rfl
  have hfar0 : Hid (Far ts f = (ts.length : Int) + 4 * f + 4) := hide rfl
  generalize hR : R (f + 1) 1 (Kds ts p) d = res
  rw [R_joint hk hj, Kds_tail] at hR
  have HR := hide hR
  clear hR
  have hK : KindIs (tokAt ts p) 4 := (kAt_tok ts p).symm.trans hk
  have h0 := nonempty_of hK (by omega)
  have fe : (tokAt ts p).toList.isEmpty = false := by rw [empty_fact, decide_eq_false_iff_not]; omega
  have g1 := litF hK 22 (by decide) (by decide) [110, 111, 116] (by decide) (by decide)
  have g2 := litF hK 25 (by decide) (by decide) [101, 120, 105, 115, 116, 115] (by decide) (by decide)
  have g3 := litT hK (by decide) (by decide) [40] (by decide)
  have HJ := hide hj
  clear hj
  have IH := hide ih
  clear hk ih
  go_enter Tryz.func327, Tryz.ntmps327
  go_wp2_with fail
  refine (deep_any b v p false deep d _ h).mono ?_
  rintro e w1 ⟨rfl, ha1⟩
  have hr1 := ha1.row hr
  go_wp2_with fail
  refine (look_any b v ts p false _ _ ha1.1 hr1 (by omega) (by omega)).mono ?_
  rintro e w2 ⟨rfl, ha2⟩
  have hr2 := ha2.row hr1
  obtain ⟨_, _, cb, _⟩ := ha2.1.cells
  generalize tokAt ts p = s at *
  go_wp2_with fail
  refine (joint_any b v ts p _ _ ha2.1 hr2 (by omega) hs).mono ?_
  rintro e w3 ⟨rfl, ha3⟩
  rw [HJ.out]
  clear cb g1 g2 g3 fe
  obtain ⟨c0, c1, c2, c3⟩ := ha3.1.cells
  have hf1 := ha3.1.free 1
  have HA : After w b v (p + 1 : Nat) false (max deep d) (w3.setCell ⟨b, 1, none⟩ (.int .i64 ((p : Int) + 1))) := ⟨ha3.1.set1 _, ((ha1.2.trans ha2.2).trans ha3.2).trans (grownBy_set _ _ _ _)⟩
  go_wp2_with fail
  clear c0 c1 c2 c3 hf1
  refine (IH.out b v ts (p + 1) _ (d + 1) _ HA.1 (HA.row hr) (by omega) hs (by omega) (by omega) (by omega) (by rw [Kds_len]; omega)).mono ?_
  rintro e w4 ⟨⟨x4, rfl⟩, ho4⟩
  generalize hr4 : R f 1 (Kds ts (p + 1)) (d + 1) = r4 at ho4
  have HR4 := hide hr4
  clear hr4
  match r4, ho4 with
  | none, ⟨p4, d4, h04, h14, ha4⟩ =>
    have hp4 : p4 ≤ (ts.length : Int) + 4 * f + 4 := by rw [← hfar0.out]; exact h14
    have HB := HA.trans ha4
    have hrB := HB.row hr
    have hres : Hid (res = none) := hide (by rw [← HR.out, HR4.out]; rfl)
    go_wp2_with fail
    refine (look_any b v ts p4 true _ _ ha4.1 hrB h04 (by omega)).mono ?_
    rintro e w5 ⟨rfl, ha5⟩
    obtain ⟨c0, c1, c2, c3⟩ := ha5.1.cells
    have hf1 := ha5.1.free 1
    have HS6 : After w b v (p4 + 1) true d4 (w5.setCell ⟨b, 1, none⟩ (.int .i64 (p4 + 1))) := ⟨ha5.1.set1 _, (HB.trans ha5).2.trans (grownBy_set _ _ _ _)⟩
    generalize tokAt ts p4 = s4 at *
    cases g4 : (s4.toList == [111, 114])
    all_goals
      go_wp2_with fail
      refine (cond_bad b v ts (p4 + 1) _ (d + 1) _ HS6.1 (HS6.row hr) (by omega) hs).mono ?_
      rintro e w6 ⟨⟨x6, rfl⟩, ha6⟩
      go_wp2_with fail
      refine (must_bad b v ts (p4 + 1) _ _ _ ha6.1 (ha6.row (HS6.row hr)) (by omega) (by omega) (by omega)).mono ?_
      rintro e w7 ⟨rfl, ha7⟩
      go_wp2_with fail
      go_ret
      rw [hres.out]
      exact ⟨⟨_, rfl⟩, _, _, by omega, by rw [hfar.out]; omega, (((HS6.trans ha6).trans ha7).alloc _).alloc _⟩
  | some (ks4, m4), ⟨p4, hk4, hge4, hp4, ha4⟩ =>
    subst hk4
    have HB := HA.trans ha4
    have hrB := HB.row hr
    go_wp2_with fail
    refine (look_any b v ts p4 false _ _ ha4.1 hrB (by omega) (by omega)).mono ?_
    rintro e w5 ⟨rfl, ha5⟩
    obtain ⟨c0, c1, c2, c3⟩ := ha5.1.cells
    have hf1 := ha5.1.free 1
    have HS6 : After w b v ((p4 : Int) + 1) false (max (max deep d) m4) (w5.setCell ⟨b, 1, none⟩ (.int .i64 ((p4 : Int) + 1))) := ⟨ha5.1.set1 _, (HB.trans ha5).2.trans (grownBy_set _ _ _ _)⟩
    by_cases hlt4 : p4 < ts.length
    · have HR5 : Hid (res = (R f 1 (Kds ts (p4 + 1)) (d + 1)).bind fun y => (must 5 y.1).bind fun k3 => some (k3, max d (max m4 y.2))) := hide (by
        rw [← HR.out, HR4.out, Option.bind_some, if_neg (by rw [Kds_lt hlt4]; simp), Kds_tail])
      generalize tokAt ts p4 = s4 at *
      cases g4 : (s4.toList == [111, 114])
      all_goals
        go_wp2_with fail
        refine (IH.out b v ts (p4 + 1) _ (d + 1) _ HS6.1 (HS6.row hr) (by omega) hs (by omega) (by omega) (by omega) (by rw [Kds_len]; omega)).mono ?_
        rintro e w6 ⟨⟨x6, rfl⟩, ho6⟩
        generalize hr6 : R f 1 (Kds ts (p4 + 1)) (d + 1) = r6 at ho6
        have HR6 := hide hr6
        clear hr6
        match r6, ho6 with
        | none, ⟨p6, d6, h06, h16, ha6⟩ =>
          have hp6 : p6 ≤ (ts.length : Int) + 4 * f + 4 := by rw [← hfar0.out]; exact h16
          have hres : Hid (res = none) := hide (by rw [HR5.out, HR6.out]; rfl)
          go_wp2_with fail
          refine (must_bad b v ts p6 _ _ _ ha6.1 (ha6.row (HS6.row hr)) h06 (by omega) (by omega)).mono ?_
          rintro e w7 ⟨rfl, ha7⟩
          go_wp2_with fail
          go_ret
          rw [hres.out]
          exact ⟨⟨_, rfl⟩, _, _, h06, by rw [hfar.out]; omega, (((HS6.trans ha6).trans ha7).alloc _).alloc _⟩
        | some (ks6, m6), ⟨p6, hk6, hge6, hp6, ha6⟩ =>
          subst hk6
          go_wp2_with fail
          refine (must_any b v ts p6 5 _ _ _ (by decide) (by decide) (by decide) ha6.1 (ha6.row (HS6.row hr)) hp6 hs).mono ?_
          rintro e w7 ⟨rfl, ⟨k7, hp7, ha7⟩ | ⟨k7, ha7⟩⟩
          · have hres : Hid (res = some (Kds ts (p6 + 1), max d (max m4 m6))) := hide (by rw [HR5.out, HR6.out, Option.bind_some, must_Kds ts p6 5 (by decide), if_pos k7]; rfl)
            clear k7
            go_wp2_with fail
            go_ret
            rw [hres.out]
            refine ⟨⟨_, rfl⟩, p6 + 1, rfl, by omega, hp7, ?_⟩
            rw [show max deep (max d (max m4 m6)) = max (max (max deep d) m4) m6 by omega]
            exact (((HS6.trans ha6).trans ha7).alloc _).alloc _
          · have hres : Hid (res = none) := hide (by rw [HR5.out, HR6.out, Option.bind_some, must_Kds ts p6 5 (by decide), if_neg k7]; rfl)
            clear k7
            go_wp2_with fail
            go_ret
            rw [hres.out]
            exact ⟨⟨_, rfl⟩, _, _, by omega, by rw [hfar.out]; omega, (((HS6.trans ha6).trans ha7).alloc _).alloc _⟩
    · have hres : Hid (res = none) := hide (by rw [← HR.out, HR4.out, Option.bind_some, if_pos (Kds_ge hlt4)])
      generalize tokAt ts p4 = s4 at *
      cases g4 : (s4.toList == [111, 114])
      all_goals
        go_wp2_with fail
        refine (cond_end b v ts ((p4 : Int) + 1) _ (d + 1) _ HS6.1 (HS6.row hr) (by omega) hs).mono ?_
        rintro e w6 ⟨⟨x6, rfl⟩, ha6⟩
        go_wp2_with fail
        refine (must_bad b v ts ((p4 : Int) + 1) _ _ _ ha6.1 (ha6.row (HS6.row hr)) (by omega) (by omega) (by omega)).mono ?_
        rintro e w7 ⟨rfl, ha7⟩
        go_wp2_with fail
        go_ret
        rw [hres.out]
        exact ⟨⟨_, rfl⟩, _, _, by omega, by rw [hfar.out]; omega, (((HS6.trans ha6).trans ha7).alloc _).alloc _⟩
end Go.Proofs.YtbkeflgafjnefaaGreatDoor
