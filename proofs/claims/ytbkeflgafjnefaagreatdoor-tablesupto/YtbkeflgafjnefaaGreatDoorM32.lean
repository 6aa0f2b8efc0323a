/- Towards the law of tables: R18, R19, R20. -/
import Derived.Test.YtbkeflgafjnefaaGreatDoorM31
namespace Go.Proofs.YtbkeflgafjnefaaGreatDoor
open Go.RowKit
open Trib

set_option maxHeartbeats 8000000 in
theorem cond_cmp (f : Nat) (b : Nat) (v : Value) (ts : List ByteArray) (p : Nat) (deep d : Int) (w : World) (h : ScanIs w b v p false deep) (hr : RowIs w b v ts) (hp : p ≤ ts.length) (hs : Small ts) (hd0 : 0 ≤ d) (hd1 : d + (f + 1 : Nat) ≤ 10000) (hf : f + 1 ≤ 10000) (hn : 8 * (Kds ts p).length + 3 ≤ f + 1)
    (hk1 : kAt ts p ≠ 22) (hk2 : kAt ts p ≠ 25) (hk3 : ¬ (kAt ts p = 4 ∧ jointL 0 (Kds ts p) = true)) (he : Kds ts p ≠ []) :
    Calls Tryz.prog 327 #[.pointer (some ⟨b, 0, none⟩), .int .i64 d] w fun e w' => Ptr e ∧ Out w b v ts p deep (Far ts (f + 1)) w' (R (f + 1) 1 (Kds ts p) d) := by
  have hs1 := hs.1
  rw [Kds_len] at hn
  have hfar : Hid (Far ts (f + 1) = (ts.length : Int) + 4 * (f + 1 : Nat) + 4) := hide rfl
  have hfar0 : Hid (Far ts f = (ts.length : Int) + 4 * f + 4) := hide rfl
  generalize hR : R (f + 1) 1 (Kds ts p) d = res
  rw [R_cmp hk1 hk2 hk3 he] at hR
  have HR := hide hR
  clear hR
  obtain ⟨k, hk⟩ : ∃ k, kAt ts p = k := ⟨_, rfl⟩
  have hK : KindIs (tokAt ts p) k := (kAt_tok ts p).symm.trans hk
  rw [hk] at hk1 hk2 hk3
  have g1 := litF hK 22 (by decide) (by decide) [110, 111, 116] (by decide) hk1
  have g2 := litF hK 25 (by decide) (by decide) [101, 120, 105, 115, 116, 115] (by decide) hk2
  have HK3 := hide hk3
  have HE : Hid ((tokAt ts p).size = 0 → res = none) := hide fun e0 => by
    have e1 : tokAt ts p = ⟨#[]⟩ := by
      apply ByteArray.ext; apply Array.ext'; exact List.eq_nil_of_length_eq_zero (by rw [len_eq]; exact e0)
    have e2 : kAt ts p = 0 := by rw [kAt_tok, e1]; decide
    have e3 : (Kds ts p).headD 0 = 0 := e2
    match f, hn with
    | f + 1, hn => rw [← HR.out, R_col (by omega) (by omega) (by omega), colP, must_Kds ts p 1 (by decide), if_neg (by omega)]; rfl
  clear hk he hk1 hk2 hk3
  go_enter Tryz.func327, Tryz.ntmps327
  go_wp2_with fail
  refine (deep_any b v p false deep d _ h).mono ?_
  rintro e w1 ⟨rfl, ha1⟩
  have hr1 := ha1.row hr
  go_wp2_with fail
  refine (look_any b v ts p false _ _ ha1.1 hr1 (by omega) (by omega)).mono ?_
  rintro e w2 ⟨rfl, ha2⟩
  obtain ⟨c0, c1, c2, c3⟩ := ha2.1.cells
  have hf2 := ha2.1.free 2
  have hr2 := ha2.row hr1
  by_cases h0 : (tokAt ts p).size = 0
  · have hres := hide (HE.out h0)
    have fe : (tokAt ts p).toList.isEmpty = true := by rw [empty_fact, h0]; rfl
    have HS : After w b v p true (max deep d) (w2.setCell ⟨b, 2, none⟩ (.bool true)) := ⟨ha2.1.set2 _, (ha1.2.trans ha2.2).trans (grownBy_set _ _ _ _)⟩
    clear HE
    generalize tokAt ts p = s at *
    go_wp2_with fail
    go_ret
    rw [hres.out]
    exact ⟨⟨_, rfl⟩, _, _, by omega, by rw [hfar.out]; omega, HS.alloc _⟩
  have fe : (tokAt ts p).toList.isEmpty = false := by rw [empty_fact, decide_eq_false_iff_not]; exact h0
  clear HE
  generalize tokAt ts p = s at *
  by_cases h4 : k = 4
  · subst h4
    have g3 := litT hK (by decide) (by decide) [40] (by decide)
    have HJ : Hid (jointL 0 (Kds ts p) = false) := hide (by cases e : jointL 0 (Kds ts p); rfl; exact (HK3.out ⟨rfl, e⟩).elim)
    go_wp2_with fail
    refine (joint_any b v ts p _ _ ha2.1 hr2 (by omega) hs).mono ?_
    rintro e w3 ⟨rfl, ha3⟩
    rw [HJ.out]
    have HB := (ha1.trans ha2).trans ha3
    clear c0 c1 c2 c3 hf2 g1 g2 g3 fe
    go_wp2_with fail
    refine (expr_all f b v ts p _ (d + 1) _ HB.1 (HB.row hr) (by omega) hs (by omega) (by omega) (by omega) (by rw [Kds_len]; omega)).mono ?_
    rintro e w4 ⟨⟨x4, rfl⟩, ho4⟩
    generalize hr4 : R f 0 (Kds ts p) (d + 1) = r4 at ho4
    have HR4 := hide hr4
    clear hr4
    match r4, ho4 with
    | none, ⟨p4, d4, h04, h14, ha4⟩ =>
      have hp4 : p4 ≤ (ts.length : Int) + 4 * f + 4 := by rw [← hfar0.out]; exact h14
      have HC := HB.trans ha4
      have hrC := HC.row hr
      have hres : Hid (res = none) := hide (by rw [← HR.out, HR4.out]; rfl)
      go_wp2_with fail
      refine (look_any b v ts p4 true _ _ ha4.1 hrC h04 (by omega)).mono ?_
      rintro e w5 ⟨rfl, ha5⟩
      obtain ⟨c0, c1, c2, c3⟩ := ha5.1.cells
      have hf1 := ha5.1.free 1
      have hf2 := ha5.1.free 2
      have HS6 : After w b v (p4 + 1) true d4 (w5.setCell ⟨b, 1, none⟩ (.int .i64 (p4 + 1))) := ⟨ha5.1.set1 _, (HC.trans ha5).2.trans (grownBy_set _ _ _ _)⟩
      have HS6b : After w b v p4 true d4 (w5.setCell ⟨b, 2, none⟩ (.bool true)) := ⟨ha5.1.set2 _, (HC.trans ha5).2.trans (grownBy_set _ _ _ _)⟩
      generalize tokAt ts p4 = s4 at *
      cases g4 : (s4.toList == [61])
      case true =>
        go_wp2_with fail
        refine (expr_bad b v ts (p4 + 1) _ (d + 1) _ HS6.1 (HS6.row hr) (by omega) hs).mono ?_
        rintro e w6 ⟨⟨x6, rfl⟩, ha6⟩
        go_wp2_with fail
        go_ret
        rw [hres.out]
        exact ⟨⟨_, rfl⟩, _, _, by omega, by rw [hfar.out]; omega, ((HS6.trans ha6).alloc _).alloc _⟩
      cases g5 : (s4.toList == [60])
      case true =>
        go_wp2_with fail
        refine (expr_bad b v ts (p4 + 1) _ (d + 1) _ HS6.1 (HS6.row hr) (by omega) hs).mono ?_
        rintro e w6 ⟨⟨x6, rfl⟩, ha6⟩
        go_wp2_with fail
        go_ret
        rw [hres.out]
        exact ⟨⟨_, rfl⟩, _, _, by omega, by rw [hfar.out]; omega, ((HS6.trans ha6).alloc _).alloc _⟩
      cases g6 : (s4.toList == [62])
      case true =>
        go_wp2_with fail
        refine (expr_bad b v ts (p4 + 1) _ (d + 1) _ HS6.1 (HS6.row hr) (by omega) hs).mono ?_
        rintro e w6 ⟨⟨x6, rfl⟩, ha6⟩
        go_wp2_with fail
        go_ret
        rw [hres.out]
        exact ⟨⟨_, rfl⟩, _, _, by omega, by rw [hfar.out]; omega, ((HS6.trans ha6).alloc _).alloc _⟩
      cases g7 : (s4.toList == [105, 115])
      case true =>
        go_wp2_with fail
        refine (must_bad b v ts (p4 + 1) _ _ _ HS6.1 (HS6.row hr) (by omega) (by omega) (by omega)).mono ?_
        rintro e w6 ⟨rfl, ha6⟩
        go_wp2_with fail
        go_ret
        rw [hres.out]
        exact ⟨⟨_, rfl⟩, _, _, by omega, by rw [hfar.out]; omega, ((HS6.trans ha6).alloc _).alloc _⟩
      case false =>
        go_wp2_with fail
        go_ret
        rw [hres.out]
        exact ⟨⟨_, rfl⟩, _, _, h04, by rw [hfar.out]; omega, HS6b.alloc _⟩
    | some (ks4, m4), ⟨p4, hk4, hge4, hp4, ha4⟩ =>
      subst hk4
      have HC := HB.trans ha4
      have hrC := HC.row hr
      go_wp2_with fail
      refine (look_any b v ts p4 false _ _ ha4.1 hrC (by omega) (by omega)).mono ?_
      rintro e w5 ⟨rfl, ha5⟩
      obtain ⟨c0, c1, c2, c3⟩ := ha5.1.cells
      have hf1 := ha5.1.free 1
      have hf2 := ha5.1.free 2
      obtain ⟨k4, hk4⟩ : ∃ k, kAt ts p4 = k := ⟨_, rfl⟩
      have hK4 : KindIs (tokAt ts p4) k4 := (kAt_tok ts p4).symm.trans hk4
      have HS6 : After w b v (p4 + 1 : Nat) false (max (max deep d) m4) (w5.setCell ⟨b, 1, none⟩ (.int .i64 ((p4 : Int) + 1))) := ⟨ha5.1.set1 _, (HC.trans ha5).2.trans (grownBy_set _ _ _ _)⟩
      by_cases hop : k4 = 8 ∨ k4 = 9 ∨ k4 = 10
      · have hlt4 : p4 < ts.length := kAt_lt (by omega)
        have HR5 : Hid (res = (R f 0 (Kds ts (p4 + 1)) (d + 1)).bind fun y => some (y.1, max d (max m4 y.2))) := hide (by
          rw [← HR.out, HR4.out, Option.bind_some, if_pos (by rw [show (Kds ts p4).headD 0 = k4 from hk4]; exact hop), Kds_tail])
        clear hk4
        generalize tokAt ts p4 = s4 at *
        rcases hop with rfl | rfl | rfl
        · have g1 := litT hK4 (by decide) (by decide) [61] (by decide)
          go_wp2_with fail
          refine (expr_all f b v ts (p4 + 1) _ (d + 1) _ HS6.1 (HS6.row hr) (by omega) hs (by omega) (by omega) (by omega) (by rw [Kds_len]; omega)).mono ?_
          rintro e w6 ⟨⟨x6, rfl⟩, ho6⟩
          generalize hr6 : R f 0 (Kds ts (p4 + 1)) (d + 1) = r6 at ho6
          have HR6 := hide hr6
          clear hr6
          match r6, ho6 with
          | none, ⟨p6, d6, h06, h16, ha6⟩ =>
            have hp6 : p6 ≤ (ts.length : Int) + 4 * f + 4 := by rw [← hfar0.out]; exact h16
            have hres : Hid (res = none) := hide (by rw [HR5.out, HR6.out]; rfl)
            go_wp2_with fail
            go_ret
            rw [hres.out]
            exact ⟨⟨_, rfl⟩, _, _, h06, by rw [hfar.out]; omega, ((HS6.trans ha6).alloc _).alloc _⟩
          | some (ks6, m6), ⟨p6, hk6, hge6, hp6, ha6⟩ =>
            subst hk6
            have hres : Hid (res = some (Kds ts p6, max d (max m4 m6))) := hide (by rw [HR5.out, HR6.out]; rfl)
            go_wp2_with fail
            go_ret
            rw [hres.out]
            refine ⟨⟨_, rfl⟩, p6, rfl, by omega, hp6, ?_⟩
            rw [show max deep (max d (max m4 m6)) = max (max (max deep d) m4) m6 by omega]
            exact ((HS6.trans ha6).alloc _).alloc _
        · have g1 := litF hK4 8 (by decide) (by decide) [61] (by decide) (by decide)
          have g2 := litT hK4 (by decide) (by decide) [60] (by decide)
          go_wp2_with fail
          refine (expr_all f b v ts (p4 + 1) _ (d + 1) _ HS6.1 (HS6.row hr) (by omega) hs (by omega) (by omega) (by omega) (by rw [Kds_len]; omega)).mono ?_
          rintro e w6 ⟨⟨x6, rfl⟩, ho6⟩
          generalize hr6 : R f 0 (Kds ts (p4 + 1)) (d + 1) = r6 at ho6
          have HR6 := hide hr6
          clear hr6
          match r6, ho6 with
          | none, ⟨p6, d6, h06, h16, ha6⟩ =>
            have hp6 : p6 ≤ (ts.length : Int) + 4 * f + 4 := by rw [← hfar0.out]; exact h16
            have hres : Hid (res = none) := hide (by rw [HR5.out, HR6.out]; rfl)
            go_wp2_with fail
            go_ret
            rw [hres.out]
            exact ⟨⟨_, rfl⟩, _, _, h06, by rw [hfar.out]; omega, ((HS6.trans ha6).alloc _).alloc _⟩
          | some (ks6, m6), ⟨p6, hk6, hge6, hp6, ha6⟩ =>
            subst hk6
            have hres : Hid (res = some (Kds ts p6, max d (max m4 m6))) := hide (by rw [HR5.out, HR6.out]; rfl)
            go_wp2_with fail
            go_ret
            rw [hres.out]
            refine ⟨⟨_, rfl⟩, p6, rfl, by omega, hp6, ?_⟩
            rw [show max deep (max d (max m4 m6)) = max (max (max deep d) m4) m6 by omega]
            exact ((HS6.trans ha6).alloc _).alloc _
        · have g1 := litF hK4 8 (by decide) (by decide) [61] (by decide) (by decide)
          have g2 := litF hK4 9 (by decide) (by decide) [60] (by decide) (by decide)
          have g3 := litT hK4 (by decide) (by decide) [62] (by decide)
          go_wp2_with fail
          refine (expr_all f b v ts (p4 + 1) _ (d + 1) _ HS6.1 (HS6.row hr) (by omega) hs (by omega) (by omega) (by omega) (by rw [Kds_len]; omega)).mono ?_
          rintro e w6 ⟨⟨x6, rfl⟩, ho6⟩
          generalize hr6 : R f 0 (Kds ts (p4 + 1)) (d + 1) = r6 at ho6
          have HR6 := hide hr6
          clear hr6
          match r6, ho6 with
          | none, ⟨p6, d6, h06, h16, ha6⟩ =>
            have hp6 : p6 ≤ (ts.length : Int) + 4 * f + 4 := by rw [← hfar0.out]; exact h16
            have hres : Hid (res = none) := hide (by rw [HR5.out, HR6.out]; rfl)
            go_wp2_with fail
            go_ret
            rw [hres.out]
            exact ⟨⟨_, rfl⟩, _, _, h06, by rw [hfar.out]; omega, ((HS6.trans ha6).alloc _).alloc _⟩
          | some (ks6, m6), ⟨p6, hk6, hge6, hp6, ha6⟩ =>
            subst hk6
            have hres : Hid (res = some (Kds ts p6, max d (max m4 m6))) := hide (by rw [HR5.out, HR6.out]; rfl)
            go_wp2_with fail
            go_ret
            rw [hres.out]
            refine ⟨⟨_, rfl⟩, p6, rfl, by omega, hp6, ?_⟩
            rw [show max deep (max d (max m4 m6)) = max (max (max deep d) m4) m6 by omega]
            exact ((HS6.trans ha6).alloc _).alloc _
      · have g1 := litF hK4 8 (by decide) (by decide) [61] (by decide) (by omega)
        have g2 := litF hK4 9 (by decide) (by decide) [60] (by decide) (by omega)
        have g3 := litF hK4 10 (by decide) (by decide) [62] (by decide) (by omega)
        by_cases h23 : k4 = 23
        · subst h23
          have hlt4 : p4 < ts.length := kAt_lt (by omega)
          have HR5 : Hid (res = (must 24 (Kds ts (p4 + 1))).bind fun k3 => some (k3, max d m4)) := hide (by
            rw [← HR.out, HR4.out, Option.bind_some, if_neg (by rw [show (Kds ts p4).headD 0 = 23 from hk4]; decide), if_pos (by exact hk4), Kds_tail])
          have g4 := litT hK4 (by decide) (by decide) [105, 115] (by decide)
          clear hk4
          generalize tokAt ts p4 = s4 at *
          go_wp2_with fail
          refine (must_any b v ts (p4 + 1) 24 _ _ _ (by decide) (by decide) (by decide) HS6.1 (HS6.row hr) (by omega) hs).mono ?_
          rintro e w7 ⟨rfl, ⟨k7, hp7, ha7⟩ | ⟨k7, ha7⟩⟩
          · have hres : Hid (res = some (Kds ts (p4 + 1 + 1), max d m4)) := hide (by rw [HR5.out, must_Kds ts (p4 + 1) 24 (by decide), if_pos k7]; rfl)
            clear k7
            go_wp2_with fail
            go_ret
            rw [hres.out]
            refine ⟨⟨_, rfl⟩, p4 + 1 + 1, rfl, by omega, hp7, ?_⟩
            rw [show max deep (max d m4) = max (max deep d) m4 by omega]
            exact ((HS6.trans ha7).alloc _).alloc _
          · have hres : Hid (res = none) := hide (by rw [HR5.out, must_Kds ts (p4 + 1) 24 (by decide), if_neg k7]; rfl)
            clear k7
            go_wp2_with fail
            go_ret
            rw [hres.out]
            exact ⟨⟨_, rfl⟩, _, _, by omega, by rw [hfar.out]; omega, ((HS6.trans ha7).alloc _).alloc _⟩
        · have hres : Hid (res = none) := hide (by
            rw [← HR.out, HR4.out, Option.bind_some, if_neg (by rw [show (Kds ts p4).headD 0 = k4 from hk4]; exact hop), if_neg (by rw [show (Kds ts p4).headD 0 = k4 from hk4]; exact h23)])
          have g4 := litF hK4 23 (by decide) (by decide) [105, 115] (by decide) h23
          have HS6b : After w b v p4 true (max (max deep d) m4) (w5.setCell ⟨b, 2, none⟩ (.bool true)) := ⟨ha5.1.set2 _, (HC.trans ha5).2.trans (grownBy_set _ _ _ _)⟩
          clear hk4
          generalize tokAt ts p4 = s4 at *
          go_wp2_with fail
          go_ret
          rw [hres.out]
          exact ⟨⟨_, rfl⟩, _, _, by omega, by rw [hfar.out]; omega, HS6b.alloc _⟩
  · have g3 := litF hK 4 (by decide) (by decide) [40] (by decide) h4
    have HB := ha1.trans ha2
    go_wp2_with fail
    clear c0 c1 c2 c3 hf2 g1 g2 g3 fe
    refine (expr_all f b v ts p _ (d + 1) _ HB.1 (HB.row hr) (by omega) hs (by omega) (by omega) (by omega) (by rw [Kds_len]; omega)).mono ?_
    rintro e w4 ⟨⟨x4, rfl⟩, ho4⟩
    generalize hr4 : R f 0 (Kds ts p) (d + 1) = r4 at ho4
    have HR4 := hide hr4
    clear hr4
    match r4, ho4 with
    | none, ⟨p4, d4, h04, h14, ha4⟩ =>
      have hp4 : p4 ≤ (ts.length : Int) + 4 * f + 4 := by rw [← hfar0.out]; exact h14
      have HC := HB.trans ha4
      have hrC := HC.row hr
      have hres : Hid (res = none) := hide (by rw [← HR.out, HR4.out]; rfl)
      go_wp2_with fail
      refine (look_any b v ts p4 true _ _ ha4.1 hrC h04 (by omega)).mono ?_
      rintro e w5 ⟨rfl, ha5⟩
      obtain ⟨c0, c1, c2, c3⟩ := ha5.1.cells
      have hf1 := ha5.1.free 1
      have hf2 := ha5.1.free 2
      have HS6 : After w b v (p4 + 1) true d4 (w5.setCell ⟨b, 1, none⟩ (.int .i64 (p4 + 1))) := ⟨ha5.1.set1 _, (HC.trans ha5).2.trans (grownBy_set _ _ _ _)⟩
      have HS6b : After w b v p4 true d4 (w5.setCell ⟨b, 2, none⟩ (.bool true)) := ⟨ha5.1.set2 _, (HC.trans ha5).2.trans (grownBy_set _ _ _ _)⟩
      generalize tokAt ts p4 = s4 at *
      cases g4 : (s4.toList == [61])
      case true =>
        go_wp2_with fail
        refine (expr_bad b v ts (p4 + 1) _ (d + 1) _ HS6.1 (HS6.row hr) (by omega) hs).mono ?_
        rintro e w6 ⟨⟨x6, rfl⟩, ha6⟩
        go_wp2_with fail
        go_ret
        rw [hres.out]
        exact ⟨⟨_, rfl⟩, _, _, by omega, by rw [hfar.out]; omega, ((HS6.trans ha6).alloc _).alloc _⟩
      cases g5 : (s4.toList == [60])
      case true =>
        go_wp2_with fail
        refine (expr_bad b v ts (p4 + 1) _ (d + 1) _ HS6.1 (HS6.row hr) (by omega) hs).mono ?_
        rintro e w6 ⟨⟨x6, rfl⟩, ha6⟩
        go_wp2_with fail
        go_ret
        rw [hres.out]
        exact ⟨⟨_, rfl⟩, _, _, by omega, by rw [hfar.out]; omega, ((HS6.trans ha6).alloc _).alloc _⟩
      cases g6 : (s4.toList == [62])
      case true =>
        go_wp2_with fail
        refine (expr_bad b v ts (p4 + 1) _ (d + 1) _ HS6.1 (HS6.row hr) (by omega) hs).mono ?_
        rintro e w6 ⟨⟨x6, rfl⟩, ha6⟩
        go_wp2_with fail
        go_ret
        rw [hres.out]
        exact ⟨⟨_, rfl⟩, _, _, by omega, by rw [hfar.out]; omega, ((HS6.trans ha6).alloc _).alloc _⟩
      cases g7 : (s4.toList == [105, 115])
      case true =>
        go_wp2_with fail
        refine (must_bad b v ts (p4 + 1) _ _ _ HS6.1 (HS6.row hr) (by omega) (by omega) (by omega)).mono ?_
        rintro e w6 ⟨rfl, ha6⟩
        go_wp2_with fail
        go_ret
        rw [hres.out]
        exact ⟨⟨_, rfl⟩, _, _, by omega, by rw [hfar.out]; omega, ((HS6.trans ha6).alloc _).alloc _⟩
      case false =>
        go_wp2_with fail
        go_ret
        rw [hres.out]
        exact ⟨⟨_, rfl⟩, _, _, h04, by rw [hfar.out]; omega, HS6b.alloc _⟩
    | some (ks4, m4), ⟨p4, hk4, hge4, hp4, ha4⟩ =>
      subst hk4
      have HC := HB.trans ha4
      have hrC := HC.row hr
      go_wp2_with fail
      refine (look_any b v ts p4 false _ _ ha4.1 hrC (by omega) (by omega)).mono ?_
      rintro e w5 ⟨rfl, ha5⟩
      obtain ⟨c0, c1, c2, c3⟩ := ha5.1.cells
      have hf1 := ha5.1.free 1
      have hf2 := ha5.1.free 2
      obtain ⟨k4, hk4⟩ : ∃ k, kAt ts p4 = k := ⟨_, rfl⟩
      have hK4 : KindIs (tokAt ts p4) k4 := (kAt_tok ts p4).symm.trans hk4
      have HS6 : After w b v (p4 + 1 : Nat) false (max (max deep d) m4) (w5.setCell ⟨b, 1, none⟩ (.int .i64 ((p4 : Int) + 1))) := ⟨ha5.1.set1 _, (HC.trans ha5).2.trans (grownBy_set _ _ _ _)⟩
      by_cases hop : k4 = 8 ∨ k4 = 9 ∨ k4 = 10
      · have hlt4 : p4 < ts.length := kAt_lt (by omega)
        have HR5 : Hid (res = (R f 0 (Kds ts (p4 + 1)) (d + 1)).bind fun y => some (y.1, max d (max m4 y.2))) := hide (by
          rw [← HR.out, HR4.out, Option.bind_some, if_pos (by rw [show (Kds ts p4).headD 0 = k4 from hk4]; exact hop), Kds_tail])
        clear hk4
        generalize tokAt ts p4 = s4 at *
        rcases hop with rfl | rfl | rfl
        · have g1 := litT hK4 (by decide) (by decide) [61] (by decide)
          go_wp2_with fail
          refine (expr_all f b v ts (p4 + 1) _ (d + 1) _ HS6.1 (HS6.row hr) (by omega) hs (by omega) (by omega) (by omega) (by rw [Kds_len]; omega)).mono ?_
          rintro e w6 ⟨⟨x6, rfl⟩, ho6⟩
          generalize hr6 : R f 0 (Kds ts (p4 + 1)) (d + 1) = r6 at ho6
          have HR6 := hide hr6
          clear hr6
          match r6, ho6 with
          | none, ⟨p6, d6, h06, h16, ha6⟩ =>
            have hp6 : p6 ≤ (ts.length : Int) + 4 * f + 4 := by rw [← hfar0.out]; exact h16
            have hres : Hid (res = none) := hide (by rw [HR5.out, HR6.out]; rfl)
            go_wp2_with fail
            go_ret
            rw [hres.out]
            exact ⟨⟨_, rfl⟩, _, _, h06, by rw [hfar.out]; omega, ((HS6.trans ha6).alloc _).alloc _⟩
          | some (ks6, m6), ⟨p6, hk6, hge6, hp6, ha6⟩ =>
            subst hk6
            have hres : Hid (res = some (Kds ts p6, max d (max m4 m6))) := hide (by rw [HR5.out, HR6.out]; rfl)
            go_wp2_with fail
            go_ret
            rw [hres.out]
            refine ⟨⟨_, rfl⟩, p6, rfl, by omega, hp6, ?_⟩
            rw [show max deep (max d (max m4 m6)) = max (max (max deep d) m4) m6 by omega]
            exact ((HS6.trans ha6).alloc _).alloc _
        · have g1 := litF hK4 8 (by decide) (by decide) [61] (by decide) (by decide)
          have g2 := litT hK4 (by decide) (by decide) [60] (by decide)
          go_wp2_with fail
          refine (expr_all f b v ts (p4 + 1) _ (d + 1) _ HS6.1 (HS6.row hr) (by omega) hs (by omega) (by omega) (by omega) (by rw [Kds_len]; omega)).mono ?_
          rintro e w6 ⟨⟨x6, rfl⟩, ho6⟩
          generalize hr6 : R f 0 (Kds ts (p4 + 1)) (d + 1) = r6 at ho6
          have HR6 := hide hr6
          clear hr6
          match r6, ho6 with
          | none, ⟨p6, d6, h06, h16, ha6⟩ =>
            have hp6 : p6 ≤ (ts.length : Int) + 4 * f + 4 := by rw [← hfar0.out]; exact h16
            have hres : Hid (res = none) := hide (by rw [HR5.out, HR6.out]; rfl)
            go_wp2_with fail
            go_ret
            rw [hres.out]
            exact ⟨⟨_, rfl⟩, _, _, h06, by rw [hfar.out]; omega, ((HS6.trans ha6).alloc _).alloc _⟩
          | some (ks6, m6), ⟨p6, hk6, hge6, hp6, ha6⟩ =>
            subst hk6
            have hres : Hid (res = some (Kds ts p6, max d (max m4 m6))) := hide (by rw [HR5.out, HR6.out]; rfl)
            go_wp2_with fail
            go_ret
            rw [hres.out]
            refine ⟨⟨_, rfl⟩, p6, rfl, by omega, hp6, ?_⟩
            rw [show max deep (max d (max m4 m6)) = max (max (max deep d) m4) m6 by omega]
            exact ((HS6.trans ha6).alloc _).alloc _
        · have g1 := litF hK4 8 (by decide) (by decide) [61] (by decide) (by decide)
          have g2 := litF hK4 9 (by decide) (by decide) [60] (by decide) (by decide)
          have g3 := litT hK4 (by decide) (by decide) [62] (by decide)
          go_wp2_with fail
          refine (expr_all f b v ts (p4 + 1) _ (d + 1) _ HS6.1 (HS6.row hr) (by omega) hs (by omega) (by omega) (by omega) (by rw [Kds_len]; omega)).mono ?_
          rintro e w6 ⟨⟨x6, rfl⟩, ho6⟩
          generalize hr6 : R f 0 (Kds ts (p4 + 1)) (d + 1) = r6 at ho6
          have HR6 := hide hr6
          clear hr6
          match r6, ho6 with
          | none, ⟨p6, d6, h06, h16, ha6⟩ =>
            have hp6 : p6 ≤ (ts.length : Int) + 4 * f + 4 := by rw [← hfar0.out]; exact h16
            have hres : Hid (res = none) := hide (by rw [HR5.out, HR6.out]; rfl)
            go_wp2_with fail
            go_ret
            rw [hres.out]
            exact ⟨⟨_, rfl⟩, _, _, h06, by rw [hfar.out]; omega, ((HS6.trans ha6).alloc _).alloc _⟩
          | some (ks6, m6), ⟨p6, hk6, hge6, hp6, ha6⟩ =>
            subst hk6
            have hres : Hid (res = some (Kds ts p6, max d (max m4 m6))) := hide (by rw [HR5.out, HR6.out]; rfl)
            go_wp2_with fail
            go_ret
            rw [hres.out]
            refine ⟨⟨_, rfl⟩, p6, rfl, by omega, hp6, ?_⟩
            rw [show max deep (max d (max m4 m6)) = max (max (max deep d) m4) m6 by omega]
            exact ((HS6.trans ha6).alloc _).alloc _
      · have g1 := litF hK4 8 (by decide) (by decide) [61] (by decide) (by omega)
        have g2 := litF hK4 9 (by decide) (by decide) [60] (by decide) (by omega)
        have g3 := litF hK4 10 (by decide) (by decide) [62] (by decide) (by omega)
        by_cases h23 : k4 = 23
        · subst h23
          have hlt4 : p4 < ts.length := kAt_lt (by omega)
          have HR5 : Hid (res = (must 24 (Kds ts (p4 + 1))).bind fun k3 => some (k3, max d m4)) := hide (by
            rw [← HR.out, HR4.out, Option.bind_some, if_neg (by rw [show (Kds ts p4).headD 0 = 23 from hk4]; decide), if_pos (by exact hk4), Kds_tail])
          have g4 := litT hK4 (by decide) (by decide) [105, 115] (by decide)
          clear hk4
          generalize tokAt ts p4 = s4 at *
          go_wp2_with fail
          refine (must_any b v ts (p4 + 1) 24 _ _ _ (by decide) (by decide) (by decide) HS6.1 (HS6.row hr) (by omega) hs).mono ?_
          rintro e w7 ⟨rfl, ⟨k7, hp7, ha7⟩ | ⟨k7, ha7⟩⟩
          · have hres : Hid (res = some (Kds ts (p4 + 1 + 1), max d m4)) := hide (by rw [HR5.out, must_Kds ts (p4 + 1) 24 (by decide), if_pos k7]; rfl)
            clear k7
            go_wp2_with fail
            go_ret
            rw [hres.out]
            refine ⟨⟨_, rfl⟩, p4 + 1 + 1, rfl, by omega, hp7, ?_⟩
            rw [show max deep (max d m4) = max (max deep d) m4 by omega]
            exact ((HS6.trans ha7).alloc _).alloc _
          · have hres : Hid (res = none) := hide (by rw [HR5.out, must_Kds ts (p4 + 1) 24 (by decide), if_neg k7]; rfl)
            clear k7
            go_wp2_with fail
            go_ret
            rw [hres.out]
            exact ⟨⟨_, rfl⟩, _, _, by omega, by rw [hfar.out]; omega, ((HS6.trans ha7).alloc _).alloc _⟩
        · have hres : Hid (res = none) := hide (by
            rw [← HR.out, HR4.out, Option.bind_some, if_neg (by rw [show (Kds ts p4).headD 0 = k4 from hk4]; exact hop), if_neg (by rw [show (Kds ts p4).headD 0 = k4 from hk4]; exact h23)])
          have g4 := litF hK4 23 (by decide) (by decide) [105, 115] (by decide) h23
          have HS6b : After w b v p4 true (max (max deep d) m4) (w5.setCell ⟨b, 2, none⟩ (.bool true)) := ⟨ha5.1.set2 _, (HC.trans ha5).2.trans (grownBy_set _ _ _ _)⟩
          clear hk4
          generalize tokAt ts p4 = s4 at *
          go_wp2_with fail
          go_ret
          rw [hres.out]
          exact ⟨⟨_, rfl⟩, _, _, by omega, by rw [hfar.out]; omega, HS6b.alloc _⟩
end Go.Proofs.YtbkeflgafjnefaaGreatDoor
namespace Go.Proofs.YtbkeflgafjnefaaGreatDoor
open Go.RowKit
open Trib

/-- What is left of the tokens, if nothing is bad. -/
def Cur (ts : List ByteArray) (p : Int) (bad : Bool) : Option (List Nat) := if bad then none else some (Kds ts p.toNat)
/-- The place is one that a reading comes to. -/
def Fit (ts : List ByteArray) (F p : Int) (bad : Bool) : Prop := 0 ≤ p ∧ p ≤ F ∧ (bad = false → p ≤ ts.length) ∧ ts.length ≤ F ∧ F ≤ 100000
theorem cur_bad (ts : List ByteArray) (p : Int) : Cur ts p true = none := rfl
theorem cur_good (ts : List ByteArray) (n : Nat) : Cur ts n false = some (Kds ts n) := rfl

theorem must_gen (k : Nat) (h4 : 4 ≤ k) (hk : k < 33) (b : Nat) (v : Value) (ts : List ByteArray) (F p : Int) (bad : Bool) (deep : Int) (t : ByteArray) (w : World) (ht : t.data.toList = litOf k) (h : ScanIs w b v p bad deep) (hr : RowIs w b v ts) (hs : Small ts) (hF : Fit ts F p bad) :
    Calls Tryz.prog 324 #[.pointer (some ⟨b, 0, none⟩), .string t] w fun e w' => e = .returned (.tuple #[]) ∧ ∃ p' bad', After w b v p' bad' deep w' ∧ Fit ts F p' bad' ∧ Cur ts p' bad' = (Cur ts p bad).bind (must k) := by
  have hs1 := hs.1
  obtain ⟨h0, h1, h2, h3, h5⟩ := hF
  cases bad
  · obtain ⟨n, rfl⟩ := Int.eq_ofNat_of_zero_le h0
    have hn := h2 rfl
    refine (must_any b v ts n k deep t w h4 hk ht h hr (by omega) hs).mono ?_
    rintro e w' ⟨rfl, ⟨k7, hp7, ha7⟩ | ⟨k7, ha7⟩⟩
    · exact ⟨rfl, _, _, ha7, ⟨by omega, by omega, fun _ => by omega, h3, h5⟩, by rw [cur_good, cur_good, Option.bind_some, must_Kds ts n k (by omega), if_pos k7]⟩
    · exact ⟨rfl, _, _, ha7, ⟨by omega, by omega, (fun e => Bool.noConfusion e), h3, h5⟩, by rw [cur_good, cur_bad, Option.bind_some, must_Kds ts n k (by omega), if_neg k7]⟩
  · refine (must_bad b v ts p deep t w h hr h0 (by omega) (by omega)).mono ?_
    rintro e w' ⟨rfl, ha⟩
    exact ⟨rfl, _, _, ha, ⟨h0, h1, (fun e => Bool.noConfusion e), h3, h5⟩, rfl⟩
theorem name_gen (b : Nat) (v : Value) (ts : List ByteArray) (F p : Int) (bad : Bool) (deep : Int) (w : World) (h : ScanIs w b v p bad deep) (hr : RowIs w b v ts) (hs : Small ts) (hF : Fit ts F p bad) :
    Calls Tryz.prog 326 #[.pointer (some ⟨b, 0, none⟩)] w fun e w' => ∃ t p' bad', e = .returned (.string t) ∧ After w b v p' bad' deep w' ∧ Fit ts F p' bad' ∧ Cur ts p' bad' = (Cur ts p bad).bind (must 1) := by
  have hs1 := hs.1
  obtain ⟨h0, h1, h2, h3, h5⟩ := hF
  cases bad
  · obtain ⟨n, rfl⟩ := Int.eq_ofNat_of_zero_le h0
    have hn := h2 rfl
    refine (name_any b v ts n deep w h hr (by omega) hs).mono ?_
    rintro e w' ⟨t, rfl, ⟨k7, hp7, ha7⟩ | ⟨k7, ha7⟩⟩
    · exact ⟨_, _, _, rfl, ha7, ⟨by omega, by omega, fun _ => by omega, h3, h5⟩, by rw [cur_good, cur_good, Option.bind_some, must_Kds ts n 1 (by omega), if_pos k7]⟩
    · exact ⟨_, _, _, rfl, ha7, ⟨by omega, by omega, (fun e => Bool.noConfusion e), h3, h5⟩, by rw [cur_good, cur_bad, Option.bind_some, must_Kds ts n 1 (by omega), if_neg k7]⟩
  · refine (name_bad b v ts p deep w h hr h0 (by omega) hs).mono ?_
    rintro e w' ⟨t, p', rfl, h0', hp', ha⟩
    exact ⟨_, _, _, rfl, ha, ⟨h0', by omega, (fun e => Bool.noConfusion e), h3, h5⟩, rfl⟩
/-- 'is': was the next token of kind k read? -/
def IsRes (k : Nat) (c c' : Option (List Nat)) (r : Bool) : Prop := (r = true ∧ ∃ ks, c = some (k :: ks) ∧ c' = some ks) ∨ (r = false ∧ c' = c ∧ ∀ ks, c ≠ some (k :: ks))
theorem is_gen (k : Nat) (h4 : 4 ≤ k) (hk : k < 33) (b : Nat) (v : Value) (ts : List ByteArray) (F p : Int) (bad : Bool) (deep : Int) (t : ByteArray) (w : World) (ht : t.data.toList = litOf k) (h : ScanIs w b v p bad deep) (hr : RowIs w b v ts) (hs : Small ts) (hF : Fit ts F p bad) :
    Calls Tryz.prog 231 #[.pointer (some ⟨b, 0, none⟩), .string t] w fun e w' => ∃ r p', e = .returned (.bool r) ∧ After w b v p' bad deep w' ∧ Fit ts F p' bad ∧ IsRes k (Cur ts p bad) (Cur ts p' bad) r ∧ (r = true → p' = p + 1 ∧ bad = false) := by
  have hs1 := hs.1
  obtain ⟨h0, h1, h2, h3, h5⟩ := hF
  cases bad
  · obtain ⟨n, rfl⟩ := Int.eq_ofNat_of_zero_le h0
    have hn := h2 rfl
    by_cases e : kAt ts n = k
    · have hlt : n < ts.length := kAt_lt (by omega)
      refine (is_yes b v ts n deep t w h hr (by omega) (by omega) (by omega) (next_yes h4 hk ht e)).mono ?_
      rintro _ w' ⟨rfl, ha⟩
      refine ⟨true, (n + 1 : Nat), rfl, ha, ⟨by omega, by omega, fun _ => by omega, h3, h5⟩, Or.inl ⟨rfl, Kds ts (n + 1), ?_, rfl⟩, fun _ => ⟨rfl, rfl⟩⟩
      rw [cur_good, Kds_lt hlt, ← kAt_tok, e]
    · refine (is_no b v ts n deep t w h hr (by omega) (by omega) (by omega) (next_no h4 hk ht e)).mono ?_
      rintro _ w' ⟨rfl, ha⟩
      refine ⟨false, n, rfl, ha, ⟨by omega, by omega, fun _ => by omega, h3, h5⟩, Or.inr ⟨rfl, rfl, fun ks e' => e ?_⟩, (fun e => Bool.noConfusion e)⟩
      rw [cur_good, Option.some_inj] at e'
      rw [kAt, e']; rfl
  · refine (is_bad b v ts p deep t w h hr h0 (by omega) (by omega)).mono ?_
    rintro _ w' ⟨rfl, ha⟩
    exact ⟨false, p, rfl, ha, ⟨by omega, by omega, (fun e => Bool.noConfusion e), h3, h5⟩, Or.inr ⟨rfl, rfl, fun ks e' => by cases e'⟩, (fun e => Bool.noConfusion e)⟩
/-- What a part's reading leaves, whether or not all was bad already. -/
def GenRes (o : Option (List Nat × Int)) (c' : Option (List Nat)) (dp dp' : Int) : Prop := match o with
  | none => c' = none
  | some (ks, m) => c' = some ks ∧ dp' = max dp m
theorem out_gen {w w' : World} {b : Nat} {v : Value} {ts : List ByteArray} {n : Nat} {deep F : Int} {f : Nat} {o : Option (List Nat × Int)} (h : Out w b v ts n deep (Far ts f) w' o) (hF : Far ts f ≤ F) (h3 : (ts.length : Int) ≤ F) (h5 : F ≤ 100000) :
    ∃ p' bad' dp', After w b v p' bad' dp' w' ∧ Fit ts F p' bad' ∧ GenRes o (Cur ts p' bad') deep dp' ∧ (bad' = false → (n : Int) ≤ p') := by
  match o, h with
  | none, ⟨p', d', h0, h1, h2⟩ => exact ⟨p', true, d', h2, ⟨h0, by omega, (fun e => Bool.noConfusion e), h3, h5⟩, rfl, (fun e => Bool.noConfusion e)⟩
  | some (ks, m), ⟨p', h0, h00, h1, h2⟩ => exact ⟨p', false, _, h2, ⟨by omega, by omega, fun _ => by omega, h3, h5⟩, ⟨by rw [cur_good, h0], rfl⟩, fun _ => by omega⟩
theorem expr_gen (f : Nat) (b : Nat) (v : Value) (ts : List ByteArray) (F p : Int) (bad : Bool) (deep d : Int) (w : World) (h : ScanIs w b v p bad deep) (hr : RowIs w b v ts) (hs : Small ts) (hF : Fit ts F p bad) (hfar : Far ts f ≤ F) (hd0 : 0 ≤ d) (hd1 : d + f ≤ 10000) (hf : f ≤ 10000) (hn : bad = false → 8 * (ts.length - p) + 1 ≤ f) :
    Calls Tryz.prog 325 #[.pointer (some ⟨b, 0, none⟩), .int .i64 d] w fun e w' => ∃ x p' bad' dp', e = .returned (.pointer (some x)) ∧ After w b v p' bad' dp' w' ∧ Fit ts F p' bad' ∧ GenRes ((Cur ts p bad).bind fun ks => R f 0 ks d) (Cur ts p' bad') deep dp' ∧ (bad' = false → p ≤ p') := by
  obtain ⟨h0, h1, h2, h3, h5⟩ := hF
  cases bad
  · obtain ⟨n, rfl⟩ := Int.eq_ofNat_of_zero_le h0
    have hn' := hn rfl
    have h2' := h2 rfl
    refine (expr_all f b v ts n deep d w h hr (by omega) hs hd0 hd1 hf (by rw [Kds_len]; omega)).mono ?_
    rintro e w' ⟨⟨x, rfl⟩, ho⟩
    obtain ⟨p', bad', dp', a1, a2, a3, a4⟩ := out_gen ho hfar h3 h5
    exact ⟨x, p', bad', dp', rfl, a1, a2, a3, a4⟩
  · refine (expr_bad b v ts p deep d w h hr h0 hs).mono ?_
    rintro e w' ⟨⟨x, rfl⟩, ha⟩
    exact ⟨x, p, true, _, rfl, ha, ⟨h0, h1, (fun e => Bool.noConfusion e), h3, h5⟩, rfl, (fun e => Bool.noConfusion e)⟩
theorem cond_gen (f : Nat) (ih : CondOk f) (b : Nat) (v : Value) (ts : List ByteArray) (F p : Int) (bad : Bool) (deep d : Int) (w : World) (h : ScanIs w b v p bad deep) (hr : RowIs w b v ts) (hs : Small ts) (hF : Fit ts F p bad) (hfar : Far ts f ≤ F) (hd0 : 0 ≤ d) (hd1 : d + f ≤ 10000) (hf : f ≤ 10000) (hn : bad = false → 8 * (ts.length - p) + 3 ≤ f) :
    Calls Tryz.prog 327 #[.pointer (some ⟨b, 0, none⟩), .int .i64 d] w fun e w' => ∃ x p' bad' dp', e = .returned (.pointer (some x)) ∧ After w b v p' bad' dp' w' ∧ Fit ts F p' bad' ∧ GenRes ((Cur ts p bad).bind fun ks => R f 1 ks d) (Cur ts p' bad') deep dp' ∧ (bad' = false → p ≤ p') := by
  obtain ⟨h0, h1, h2, h3, h5⟩ := hF
  cases bad
  · obtain ⟨n, rfl⟩ := Int.eq_ofNat_of_zero_le h0
    have hn' := hn rfl
    have h2' := h2 rfl
    refine (ih b v ts n deep d w h hr (by omega) hs hd0 hd1 hf (by rw [Kds_len]; omega)).mono ?_
    rintro e w' ⟨⟨x, rfl⟩, ho⟩
    obtain ⟨p', bad', dp', a1, a2, a3, a4⟩ := out_gen ho hfar h3 h5
    exact ⟨x, p', bad', dp', rfl, a1, a2, a3, a4⟩
  · refine (cond_bad b v ts p deep d w h hr h0 hs).mono ?_
    rintro e w' ⟨⟨x, rfl⟩, ha⟩
    exact ⟨x, p, true, _, rfl, ha, ⟨h0, h1, (fun e => Bool.noConfusion e), h3, h5⟩, rfl, (fun e => Bool.noConfusion e)⟩
theorem column_gen (b : Nat) (v : Value) (ts : List ByteArray) (F p : Int) (bad : Bool) (deep : Int) (w : World) (h : ScanIs w b v p bad deep) (hr : RowIs w b v ts) (hs : Small ts) (hF : Fit ts F p bad) :
    Calls Tryz.prog 328 #[.pointer (some ⟨b, 0, none⟩)] w fun e w' => ∃ x p' bad' dp', e = .returned (.pointer (some x)) ∧ After w b v p' bad' dp' w' ∧ Fit ts F p' bad' ∧ Cur ts p' bad' = (Cur ts p bad).bind colP ∧ (bad' = false → p ≤ p' ∧ dp' = deep) := by
  obtain ⟨h0, h1, h2, h3, h5⟩ := hF
  cases bad
  · obtain ⟨n, rfl⟩ := Int.eq_ofNat_of_zero_le h0
    have h2' := h2 rfl
    refine (column_any b v ts n deep w h hr (by omega) hs).mono ?_
    rintro e w' ⟨⟨x, rfl⟩, ho⟩
    cases hc : colP (Kds ts n) with
    | none =>
      rw [hc] at ho
      obtain ⟨p', d', g0, g1, g2⟩ := ho
      exact ⟨x, p', true, d', rfl, g2, ⟨g0, by omega, (fun e => Bool.noConfusion e), h3, h5⟩, by rw [cur_good, cur_bad, Option.bind_some, hc], (fun e => Bool.noConfusion e)⟩
    | some ks =>
      rw [hc] at ho
      obtain ⟨p', g0, g00, g1, g2⟩ := ho
      rw [Int.max_self] at g2
      exact ⟨x, p', false, deep, rfl, g2, ⟨by omega, by omega, fun _ => by omega, h3, h5⟩, by rw [cur_good, cur_good, Option.bind_some, hc, g0], fun _ => ⟨by omega, rfl⟩⟩
  · refine (column_bad b v ts p deep w h hr h0 (by omega) hs).mono ?_
    rintro e w' ⟨⟨x, rfl⟩, p', h0', hp', ha⟩
    exact ⟨x, p', true, _, rfl, ha, ⟨h0', by omega, (fun e => Bool.noConfusion e), h3, h5⟩, rfl, (fun e => Bool.noConfusion e)⟩
end Go.Proofs.YtbkeflgafjnefaaGreatDoor
namespace Go.Proofs.YtbkeflgafjnefaaGreatDoor
open Go.RowKit
open Trib

set_option maxHeartbeats 4000000 in
theorem query_bad : QueryBad := by
  intro b v ts p deep d w h hr hp hp2 hs
  have hs1 := hs.1
  go_enter Tryz.func234, Tryz.ntmps234
  go_wp2_with fail
  refine (deep_any b v p true deep d _ h).mono ?_
  rintro e w1 ⟨rfl, ha1⟩
  have HS2 := ha1.alloc (.cells #[.slice none 0 0, .slice none 0 0, .pointer none, .slice none 0 0, .pointer none] 388)
  go_wp2_with fail
  refine (must_bad b v ts p _ _ _ HS2.1 (HS2.row hr) hp (by omega) (by omega)).mono ?_
  rintro e w3 ⟨rfl, ha3⟩
  have HS3 := HS2.trans ha3
  obtain ⟨c0, c1, c2, c3⟩ := HS3.1.cells
  go_wp2_with fail
  refine wp_loop_rounds 1 ?_
  rw [rounds_succ]
  go_wp2_with fail
  refine (must_bad b v ts p _ _ _ HS3.1 (HS3.row hr) hp (by omega) (by omega)).mono ?_
  rintro e w4 ⟨rfl, ha4⟩
  have HS4 := HS3.trans ha4
  clear c0 c1 c2 c3
  obtain ⟨c0, c1, c2, c3⟩ := HS4.1.cells
  go_wp2_with fail
  refine wp_loop_rounds 1 ?_
  rw [rounds_succ]
  go_wp2_with fail
  refine (is_bad b v ts p _ _ _ HS4.1 (HS4.row hr) hp (by omega) (by omega)).mono ?_
  rintro e w5 ⟨rfl, ha5⟩
  have HS5 := HS4.trans ha5
  go_wp2_with fail
  refine (is_bad b v ts p _ _ _ HS5.1 (HS5.row hr) hp (by omega) (by omega)).mono ?_
  rintro e w6 ⟨rfl, ha6⟩
  have HS6 := HS5.trans ha6
  go_wp2_with fail
  refine (is_bad b v ts p _ _ _ HS6.1 (HS6.row hr) hp (by omega) (by omega)).mono ?_
  rintro e w7 ⟨rfl, ha7⟩
  have HS7 := HS6.trans ha7
  go_wp2_with fail
  go_ret
  exact ⟨⟨_, rfl⟩, HS7⟩
end Go.Proofs.YtbkeflgafjnefaaGreatDoor
