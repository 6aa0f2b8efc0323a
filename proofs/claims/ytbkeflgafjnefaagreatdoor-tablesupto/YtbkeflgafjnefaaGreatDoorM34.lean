/- Towards the law of tables: R21, R22, ReadParts. -/
import Derived.Test.YtbkeflgafjnefaaGreatDoorM33
import Derived.Deep.RegionLaw
import Derived.Deep.DeepCutAuto
import Derived.Deep.CutBlock
import Derived.Test.YtbkeflgafjnefaaGreatDoorM32
import Derived.Test.YtbkeflgafjnefaaGreatDoorM08
import Derived.Test.YtbkeflgafjnefaaGreatDoorM04
namespace Go.Proofs.YtbkeflgafjnefaaGreatDoor
open Go.RowKit
open Trib
attribute [local go_sem ↓] Go.wp_at_zero Go.wp_at_succ

theorem infoNodePtr : (Tryz.prog.info? 386).map (fun i => (i.zero, i.size, i.bytes)) = some (some (.pointer none), 1, 8) := by kernel_rfl
theorem infoSource : (Tryz.prog.info? 438).map (fun i => (i.zero, i.size, i.bytes)) = some (some (.agg #[.string ⟨#[]⟩, .string ⟨#[]⟩]), 2, 32) := by kernel_rfl

/-- One round of the loop over the exprs. -/
theorem exprs_next {f1 : Nat} {T : Option (List Nat × Int)} {c0 c4 c7 : Option (List Nat)} {d dp dp4 : Int} {r : Bool} (hT : T = c0.bind fun ks => L3 (f1 + 1) ks d dp) (hG : GenRes (c0.bind fun ks => R f1 0 ks d) c4 dp dp4) (hI : IsRes 6 c4 c7 r) :
    T = c7.bind fun ks => if r then L3 f1 ks d dp4 else some (ks, dp4) := by
  cases c0 with
  | none =>
    have h4 : c4 = none := hG
    subst h4
    rcases hI with ⟨_, ks, e, _⟩ | ⟨rfl, rfl, _⟩
    · cases e
    · rw [hT]; rfl
  | some ks =>
    rw [Option.bind_some] at hT hG
    rw [hT, L3_step]
    cases hR : R f1 0 ks d with
    | none =>
      rw [hR] at hG
      have h4 : c4 = none := hG
      subst h4
      rcases hI with ⟨_, ks, e, _⟩ | ⟨rfl, rfl, _⟩
      · cases e
      · rfl
    | some x =>
      obtain ⟨k1, m1⟩ := x
      rw [hR] at hG
      obtain ⟨rfl, rfl⟩ := hG
      rw [Option.bind_some]
      rcases hI with ⟨rfl, ks', e, rfl⟩ | ⟨rfl, rfl, hne⟩
      · obtain rfl : k1 = 6 :: ks' := Option.some.inj e
        rfl
      · rw [if_neg]
        · rfl
        · intro e
          match k1, e, hne with
          | h :: t, e, hne => exact hne t (by rw [show h = 6 from e])
theorem srcs_next {f1 : Nat} {T : Option (List Nat)} {c0 c1 c2 c3 : Option (List Nat)} {r : Bool} (hT : T = c0.bind (srcsP (f1 + 1))) (h1 : c1 = c0.bind (must 1)) (h2 : c2 = c1.bind (must 1)) (hI : IsRes 6 c2 c3 r) :
    T = c3.bind fun ks => if r then srcsP f1 ks else some ks := by
  have e : T = c2.bind fun b => match b with | 6 :: r => srcsP f1 r | _ => some b := by
    rw [hT, h2, h1]
    cases c0 with
    | none => rfl
    | some ks =>
      rw [Option.bind_some, srcsP, Option.bind_some, Option.bind_assoc]
      rfl
  rw [e]
  rcases hI with ⟨rfl, ks', rfl, rfl⟩ | ⟨rfl, rfl, hne⟩
  · rfl
  · cases c3 with
    | none => rfl
    | some ks =>
      match ks, hne with
      | [], _ => rfl
      | h :: t, hne =>
        simp only [Option.bind_some]
        split
        · rename_i r heq
          exact absurd rfl (heq ▸ hne r)
        · rfl
theorem cols_next {f1 : Nat} {T : Option (List Nat)} {c0 c2 c3 : Option (List Nat)} {r : Bool} (hT : T = c0.bind (colsP (f1 + 1))) (h2 : c2 = c0.bind colP) (hI : IsRes 6 c2 c3 r) :
    T = c3.bind fun ks => if r then colsP f1 ks else some ks := by
  have e : T = c2.bind fun b => match b with | 6 :: r => colsP f1 r | _ => some b := by
    rw [hT, h2]
    cases c0 with
    | none => rfl
    | some ks =>
      rw [Option.bind_some, colsP, Option.bind_some]
      rfl
  rw [e]
  rcases hI with ⟨rfl, ks', rfl, rfl⟩ | ⟨rfl, rfl, hne⟩
  · rfl
  · cases c3 with
    | none => rfl
    | some ks =>
      match ks, hne with
      | [], _ => rfl
      | h :: t, hne =>
        simp only [Option.bind_some]
        split
        · rename_i r heq
          exact absurd rfl (heq ▸ hne r)
        · rfl
/-- A place that is kept is kept. -/
theorem cur_inj {ts : List ByteArray} {F p q : Int} (hp : Fit ts F p false) (hq : Fit ts F q false) (h : Cur ts q false = Cur ts p false) : q = p := by
  have h4 := hp.1
  have h7 := hq.1
  obtain ⟨n4, rfl⟩ := Int.eq_ofNat_of_zero_le h4
  obtain ⟨n7, rfl⟩ := Int.eq_ofNat_of_zero_le h7
  rw [cur_good, cur_good, Option.some_inj] at h
  have := congrArg List.length h
  rw [Kds_len, Kds_len] at this
  have := hp.2.2.1 rfl
  have := hq.2.2.1 rfl
  omega
/-- A token that must be is read: the place moves on by one. -/
theorem cur_must {ts : List ByteArray} {F p q : Int} {bad : Bool} {k : Nat} (hk : k ≠ 0) (hp : Fit ts F p bad) (hq : Fit ts F q false) (h : Cur ts q false = (Cur ts p bad).bind (must k)) : bad = false ∧ q = p + 1 := by
  cases bad
  · refine ⟨rfl, ?_⟩
    have h4 := hp.1
    have h7 := hq.1
    obtain ⟨n4, rfl⟩ := Int.eq_ofNat_of_zero_le h4
    obtain ⟨n7, rfl⟩ := Int.eq_ofNat_of_zero_le h7
    rw [cur_good, cur_good, Option.bind_some, must_Kds ts n4 k hk] at h
    split at h
    · have hk' : n4 < ts.length := kAt_lt (by omega)
      rw [Option.some_inj] at h
      have := congrArg List.length h
      rw [Kds_len, Kds_len] at this
      have := hq.2.2.1 rfl
      omega
    · cases h
  · cases h
theorem two_new (w : World) (a b : Value) (t : TypeId) : ∀ j u, [a, b][j]? = some u → (w.alloc (.cells #[a, b] t)).cell? ((⟨w.heap.size, 0, none⟩ : Addr).add j) = some u := by
  intro j u hj
  have h := heap_alloc_new w (.cells #[a, b] t)
  match j, hj with
  | 0, hj => simp at hj; subst hj; exact cell_of_block h rfl
  | 1, hj => simp at hj; subst hj; exact cell_of_block h rfl
theorem cond_yes {k f : Nat} {c c1 c2 : Option (List Nat)} {d dp dp2 : Int} (hI : IsRes k c c1 true) (hG : GenRes (c1.bind fun ks => R f 1 ks d) c2 dp dp2) : CondTo k f c d dp c2 dp2 := by
  rcases hI with ⟨_, ks, rfl, rfl⟩ | ⟨e, _⟩
  · unfold CondTo
    rw [Option.bind_some, if_pos (by rfl)]
    exact hG
  · cases e
theorem head_ne {k : Nat} (hk : k ≠ 0) {ks : List Nat} (h : ∀ r, some ks ≠ some (k :: r)) : ks.headD 0 ≠ k := by
  match ks, h with
  | [], _ => exact fun e => hk e.symm
  | a :: r, h => intro e; exact h r (by rw [show a = k from e])
theorem cond_no {k f : Nat} (hk : k ≠ 0) {c c1 : Option (List Nat)} {d dp : Int} (hI : IsRes k c c1 false) : CondTo k f c d dp c1 dp := by
  rcases hI with ⟨e, _⟩ | ⟨_, rfl, hne⟩
  · cases e
  · unfold CondTo
    cases c1 with
    | none => rfl
    | some ks => rw [Option.bind_some, if_neg (head_ne hk hne)]; exact ⟨rfl, (Int.max_self _).symm⟩
theorem group_yes {n : Nat} {c c1 c2 c3 : Option (List Nat)} (hI : IsRes 17 c c1 true) (h2 : c2 = c1.bind (must 18)) (h3 : c3 = c2.bind (colsP n)) : GroupTo n c c3 := by
  rcases hI with ⟨_, ks, rfl, rfl⟩ | ⟨e, _⟩
  · unfold GroupTo
    rw [Option.bind_some, if_pos (by rfl), h3, h2]
    rfl
  · cases e
theorem group_no {n : Nat} {c c1 : Option (List Nat)} (hI : IsRes 17 c c1 false) : GroupTo n c c1 := by
  rcases hI with ⟨e, _⟩ | ⟨_, rfl, hne⟩
  · cases e
  · unfold GroupTo
    cases c1 with
    | none => rfl
    | some ks => rw [Option.bind_some, if_neg (head_ne (by decide) hne)]
theorem cur_len {ts : List ByteArray} {p : Int} {bad : Bool} {ks : List Nat} (h : Cur ts p bad = some ks) : ks.length ≤ ts.length := by
  cases bad
  · obtain rfl := Option.some.inj h
    rw [Kds_len]; omega
  · cases h
theorem cur_isgood {ts : List ByteArray} {p : Int} {bad : Bool} {ks : List Nat} (h : Cur ts p bad = some ks) : bad = false := by
  cases bad
  · rfl
  · cases h
theorem row_set {w : World} {base c i : Nat} {e t : TypeId} {size n : Nat} {x u : Value} {xs : List Value} {cs : Array Value} (h : w.ownsRow base e size x n xs) (hc : w.heap[c]? = some (.cells cs t (0, 0))) (ht : t ≠ e) : (w.setCell ⟨c, i, none⟩ u).ownsRow base e size x n xs := by
  refine ownsRow_setCell_other h ?_ u
  rcases h.2 with ⟨rfl, _⟩ | ⟨g, cap, cur, rfl, _, hgb, _⟩
  · simp [Value.ownBlock]
  · intro e'
    obtain rfl : g = c := by simpa [Value.ownBlock] using e'
    rw [hc] at hgb
    simp at hgb
    exact ht hgb.2
theorem wrap_small {x : Int} (h0 : 0 ≤ x) (h1 : x ≤ 1000000) : IntKind.i64.wrap x = x := by rw [IntKind.wrap_i64]; omega

set_option maxHeartbeats 8000000 in
set_option maxRecDepth 100000 in
theorem query_gen (f : Nat) (ih : CondOk f) (b : Nat) (v : Value) (ts : List ByteArray) (p : Nat) (deep d : Int) (w : World) (h : ScanIs w b v p false deep) (hr : RowIs w b v ts) (hp : p ≤ ts.length) (hs : Small ts) (hd0 : 0 ≤ d) (hd1 : d + (f + 1 : Nat) ≤ 10000) (hf : f + 1 ≤ 10000) (hn : 8 * (Kds ts p).length + 4 ≤ f + 1) :
    Calls Tryz.prog 234 #[.pointer (some ⟨b, 0, none⟩), .int .i64 d] w fun e w' => Ptr e ∧ ∃ p' bad' dp', After w b v p' bad' dp' w' ∧ Fit ts (Far ts (f + 1)) p' bad' ∧ GenRes (R (f + 1) 2 (Kds ts p) d) (Cur ts p' bad') deep dp' ∧ (bad' = false → (p : Int) ≤ p') := by
  have hs1 := hs.1
  rw [Kds_len] at hn
  have hblt := h.lt
  obtain ⟨i0, hi, hz0, hz1, hz2⟩ := info_parts infoNodePtr
  obtain ⟨j0, hj, hy0, hy1, hy2⟩ := info_parts infoSource
  have hFit : Fit ts (Far ts (f + 1)) p false := ⟨by omega, by unfold Far; omega, fun _ => by omega, by unfold Far; omega, by unfold Far; omega⟩
  have hfarf : ∀ g, g ≤ f → Far ts g ≤ Far ts (f + 1) := fun g hg => by unfold Far; omega
  generalize hF : Far ts (f + 1) = F at *
  have HF := hide hF
  clear hF
  have HFF := hide hfarf
  clear hfarf
  go_enter Tryz.func234, Tryz.ntmps234
  go_wp2_with fail
  refine (deep_any b v p false deep d _ h).mono ?_
  rintro e w1 ⟨rfl, ha1⟩
  have HS2 := ha1.alloc (.cells #[.slice none 0 0, .slice none 0 0, .pointer none, .slice none 0 0, .pointer none] 388)
  have HQ2 : QBase w b v w1.heap.size p false (max deep d) #[.slice none 0 0, .slice none 0 0, .pointer none, .slice none 0 0, .pointer none] (w1.alloc (.cells #[.slice none 0 0, .slice none 0 0, .pointer none, .slice none 0 0, .pointer none] 388)) := ⟨HS2.1, HS2.2, heap_alloc_new _ _⟩
  have hcge : w.heap.size ≤ w1.heap.size := ha1.2.size
  go_wp2_with fail
  generalize w1.heap.size = c at *
  refine (must_gen 14 (by decide) (by decide) b v ts F p false _ _ _ (by decide) HS2.1 (HS2.row hr) hs hFit).mono ?_
  rintro e w3 ⟨rfl, p3, bad3, ha3, hF3, hC3⟩
  have HQ3 := HQ2.step ha3
  have HC3 := hide hC3
  clear hC3 HS2 HQ2
  generalize hT : (Cur ts p3 bad3).bind (fun ks => L3 f ks (d + 1) (max deep d)) = T
  have HT := hide hT
  clear hT
  have hge3 : bad3 = false → (p : Int) + 1 ≤ p3 := by
    rintro rfl
    have e1 := HC3.out
    rw [cur_good, Option.bind_some, must_Kds ts p 14 (by decide)] at e1
    split at e1
    · have h0 := hF3.1
      have h2 := hF3.2.2.1 rfl
      obtain ⟨n, rfl⟩ := Int.eq_ofNat_of_zero_le h0
      rw [cur_good, Option.some_inj] at e1
      have := congrArg List.length e1
      rw [Kds_len, Kds_len] at this
      have hk : kAt ts p = 14 := by assumption
      have := kAt_lt (ts := ts) (p := p) (by omega)
      omega
    · cases e1
  go_upto_block 0 with fail
  go_cut [6] (fun m wr => ∃ (bad : Bool) (q dp : Int) (x0 : Value), QBase w b v c q bad dp #[x0, .slice none 0 0, .pointer none, .slice none 0 0, .pointer none] wr ∧ Fit ts F q bad ∧ T = ((Cur ts q bad).bind fun ks => some (ks, dp)) ∧ (bad = false → (p : Int) + 1 ≤ q))
  case first =>
    go_wp2_with fail
    go_loopg [6] (2 * ts.length + 10) (fun k m wr => ∃ (more bad : Bool) (q dp : Int) (n : Nat) (x0 : Value) (xs : List Value), m = .bool more ∧ QBase w b v c q bad dp #[x0, .slice none 0 0, .pointer none, .slice none 0 0, .pointer none] wr ∧ wr.ownsRow w.heap.size 386 1 x0 n xs ∧ Fit ts F q bad ∧ n ≤ 500 ∧ ExprsTo T f ts (d + 1) more bad q dp n ∧ (bad = false → (p : Int) + 1 ≤ q) ∧ (bad = false → more = true → ts.length - q < k))
    case atStart => 
      refine ⟨true, bad3, p3, _, 0, .slice none 0 0, [], rfl, HQ3, World.ownsRow_nil _ _ _ _, hF3, by omega, ⟨f, Nat.le_refl _, ?_, HT.out.symm⟩, hge3, ?_⟩
      · intro e _; have := hge3 e; have := hF3.2.2.1 e; constructor <;> omega
      · intro e _; have := hge3 e; omega
    case round =>
      obtain ⟨more, bad, q, dp, n, x0, xs, rfl, HQ, hrow, hFq, hn5, hto, hge, hk⟩ := hrel
      obtain ⟨c0, c1, c2, c3⟩ := HQ.sc.cells
      by_cases hcont : more = true ∧ bad = false
      · obtain ⟨rfl, rfl⟩ := hcont
        have hk' := hk rfl rfl
        have hge' := hge rfl
        clear hk hge
        obtain ⟨f1, hf1, hf2, hT1⟩ := hto
        obtain ⟨hf2, hn6⟩ := hf2 rfl rfl
        have q0 := HQ.cell (i := 0) rfl
        have qf := HQ.free 0
        have hTT := hide hT1
        clear hT1
        have hcl := lt_of_block HQ.q
        have hql := hFq.2.2.1 rfl
        obtain ⟨f1, rfl⟩ : ∃ g, f1 = g + 1 := ⟨f1 - 1, by omega⟩
        have HQd : QBase w b v c q false dp #[x0, .slice none 0 0, .pointer none, .slice none 0 0, .pointer none] wr.drew := ⟨HQ.sc, HQ.gr.trans (grownBy_drew _ _), HQ.q⟩
        have hrowd : wr.drew.ownsRow w.heap.size 386 1 x0 n xs := hrow.drew
        have hwr : IntKind.i64.wrap (d + 1) = d + 1 := wrap_small (by omega) (by omega)
        go_wp2_with fail
        go_region_law (first
          | (refine step_append_lies _ (by rfl) _ _ 384 (by rfl) w.heap.size 386 i0 (.pointer none) 1 8 Tryz.underlying384 hi hz0 hz1 hz2 rfl (by decide) x0 n xs (by rfl) (hrow4.alloc _) ⟨w4.heap.size, 0, none⟩ 1 1 [.pointer (some x4)] (by rfl) (by rfl) (cell_one_new _ _ _) (by simp [Value.oneCell']) (by decide) (by unfold maxLen; omega) (by omega) (by have := HQ4.gr.size; simp; omega) (w4.heap.size + 1) (by simp) ?_; intro g cap w5 hown5 hgrow5 hat5 hlt5; have HQ5 := (HQ4.alloc (.cells #[.pointer (some x4)] 386)).grown (hrow4.alloc _) hgrow5 (by decide) (by decide); have q5 := HQ5.cell (i := 0) rfl; have qf5 := HQ5.free 0)
          | (go_simp; go_at_call 325; refine (expr_gen f1 b v ts F q false dp (d + 1) _ HQd.sc (HQd.row hr) hs hFq (HFF.out f1 (by omega)) (by omega) (by omega) (by omega) (fun _ => by omega)).mono ?_; rintro e w4 ⟨x4, p4, bad4, dp4, rfl, ha4, hF4, hG4, hge4⟩; have HQ4 := HQd.step ha4; have hrow4 := row_step HQd.sc ha4 hrowd (by decide); have q4 := HQ4.cell (i := 0) rfl; have qf4 := HQ4.free 0; have hc4 := lt_of_block HQ4.q))
        all_goals
          have HQ6 := HQ5.set hcge 0 (.slice (some ⟨g, 0, none⟩) (n + 1) cap)
          have hrow6 := row_set (i := 0) (u := .slice (some ⟨g, 0, none⟩) (n + 1) cap) hown5 HQ5.q (by decide)
          clear hgrow5 hat5 hown5 q5 qf5 q4 qf4 q0 qf hrow4 hrowd hrow
          go_wp2_with fail
          refine (is_gen 6 (by decide) (by decide) b v ts F p4 bad4 dp4 _ _ (by decide) HQ6.sc (HQ6.row hr) hs hF4).mono ?_
          rintro e w7 ⟨r, p7, rfl, ha7, hF7, hI7, hp7⟩
          have HQ7 := HQ6.step ha7
          have hrow7 := row_step HQ6.sc ha7 hrow6 (by decide)
          have HI7 := hide hI7
          have HG4 := hide hG4
          clear hI7 hG4 ha7 ha4
          go_wp2_with fail
          go_roundg (gk - 1)
          case measure => omega
          case rel =>
            refine ⟨r, bad4, p7, dp4, n + 1, _, _, rfl, HQ7, hrow7, hF7, by omega, ⟨f1, by omega, ?_, exprs_next hTT.out HG4.out HI7.out⟩, ?_, ?_⟩
            · rintro rfl rfl
              have h1 := hge4 rfl
              have h2 := (hp7 rfl).1
              have h3 := hF7.2.2.1 rfl
              constructor <;> omega
            · rintro rfl
              have h1 := hge4 rfl
              rcases HI7.out with ⟨rfl, _⟩ | ⟨rfl, hc, _⟩
              · have := (hp7 rfl).1; omega
              · have h4 := hF4.1
                have h7 := hF7.1
                obtain ⟨n4, rfl⟩ := Int.eq_ofNat_of_zero_le h4
                obtain ⟨n7, rfl⟩ := Int.eq_ofNat_of_zero_le h7
                rw [cur_good, cur_good, Option.some_inj] at hc
                have := congrArg List.length hc
                rw [Kds_len, Kds_len] at this
                have := hF4.2.2.1 rfl
                have := hF7.2.2.1 rfl
                omega
            · rintro rfl rfl
              have h1 := hge4 rfl
              have h2 := (hp7 rfl).1
              omega
      · have hfin : Hid (T = ((Cur ts q bad).bind fun ks => some (ks, dp))) := hide (by
          obtain ⟨f1, _, _, hT1⟩ := hto
          rw [hT1]
          cases bad
          · cases more
            · rfl
            · exact (hcont ⟨rfl, rfl⟩).elim
          · rfl)
        clear hto hk hn5 hrow
        cases more
        · go_wp2_with fail
          go_meet
          case rel => exact ⟨bad, q, dp, x0, HQ, hFq, hfin.out, hge⟩
        · cases bad
          · exact (hcont ⟨rfl, rfl⟩).elim
          · go_wp2_with fail
            go_meet
            case rel => exact ⟨true, q, dp, x0, HQ, hFq, hfin.out, hge⟩
  case rest =>
    clear ha1 ha3 hge3 HQ3 hF3
    obtain ⟨bad4, p4, dp4, x0, HQ4, hF4, hT4, hge4⟩ := hcut
    have HT4 := hide hT4
    clear hT4
    go_wp2_with fail
    refine (must_gen 15 (by decide) (by decide) b v ts F p4 bad4 _ _ _ (by decide) HQ4.sc (HQ4.row hr) hs hF4).mono ?_
    rintro e w5 ⟨rfl, p5, bad5, ha5, hF5, hC5⟩
    have HQ5 := HQ4.step ha5
    have HC5 := hide hC5
    clear hC5
    generalize hT2 : (Cur ts p5 bad5).bind (fun ks => srcsP (ts.length + 2) ks) = T2
    have HT2 := hide hT2
    clear hT2
    have hge5 : bad5 = false → (p : Int) + 1 ≤ p5 := by
      rintro rfl
      have e1 := cur_must (by decide) hF4 hF5 HC5.out
      have := hge4 e1.1
      omega
    go_upto_block 2 with fail
    go_cut [7, 8, 9] (fun m a1 b1 wr => ∃ (bad : Bool) (q : Int) (x1 : Value), QBase w b v c q bad dp4 #[x0, x1, .pointer none, .slice none 0 0, .pointer none] wr ∧ Fit ts F q bad ∧ T2 = Cur ts q bad ∧ (bad = false → (p : Int) + 1 ≤ q))
    case first =>
      go_wp2_with fail
      go_loopg [7, 8, 9] (2 * ts.length + 10) (fun k m a1 b1 wr => ∃ (more bad : Bool) (q : Int) (n f1 : Nat) (x1 : Value) (xs : List Value), m = .bool more ∧ QBase w b v c q bad dp4 #[x0, x1, .pointer none, .slice none 0 0, .pointer none] wr ∧ wr.ownsRow w.heap.size 438 2 x1 n xs ∧ Fit ts F q bad ∧ n ≤ 500 ∧ (T2 = (Cur ts q bad).bind fun ks => if more then srcsP f1 ks else some ks) ∧ (bad = false → (p : Int) + 1 ≤ q) ∧ (bad = false → more = true → ts.length - q < k ∧ (n : Int) ≤ q ∧ ts.length - q + 1 ≤ f1))
      case atStart =>
        refine ⟨true, bad5, p5, 0, ts.length + 2, .slice none 0 0, [], rfl, HQ5, World.ownsRow_nil _ _ _ _, hF5, by omega, HT2.out.symm, hge5, ?_⟩
        intro e _; have := hge5 e; omega
      case round =>
        obtain ⟨more, bad, q, n, f1, x1, xs, rfl, HQ, hrow, hFq, hn5, hT6, hge, hk⟩ := hrel
        obtain ⟨c0, c1, c2, c3⟩ := HQ.sc.cells
        have HT6 := hide hT6
        clear hT6
        by_cases hcont : more = true ∧ bad = false
        · obtain ⟨rfl, rfl⟩ := hcont
          obtain ⟨hk1, hk2, hk3⟩ := hk rfl rfl
          have hge' := hge rfl
          have hql := hFq.2.2.1 rfl
          clear hk hge
          obtain ⟨f1, rfl⟩ : ∃ g, f1 = g + 1 := ⟨f1 - 1, by omega⟩
          go_wp2_with fail
          refine (name_gen b v ts F q false _ _ HQ.sc (HQ.row hr) hs hFq).mono ?_
          rintro e w6 ⟨t6, p6, bad6, rfl, ha6, hF6, hC6⟩
          have HQ6 := HQ.step ha6
          have hrow6 := row_step HQ.sc ha6 hrow (by decide)
          have HC6 := hide hC6
          clear hC6
          go_wp2_with fail
          refine (name_gen b v ts F p6 bad6 _ _ HQ6.sc (HQ6.row hr) hs hF6).mono ?_
          rintro e w7 ⟨t7, p7, bad7, rfl, ha7, hF7, hC7⟩
          have HQ7 := HQ6.step ha7
          have hrow7 := row_step HQ6.sc ha7 hrow6 (by decide)
          have HC7 := hide hC7
          clear hC7 c0 c1 c2 c3
          have q7 := HQ7.cell (i := 1) rfl
          have qf7 := HQ7.free 1
          have hc7 := lt_of_block HQ7.q
          go_wp2_with (at_builtin; refine wpList_append_lies _ rfl _ _ 385 rfl w.heap.size 438 j0 (.agg #[.string ⟨#[]⟩, .string ⟨#[]⟩]) 2 32 Tryz.underlying385 hj hy0 hy1 hy2 rfl (by decide) x1 n xs rfl (hrow7.alloc _) ⟨w7.heap.size, 0, none⟩ 1 1 [.string t6, .string t7] rfl rfl (two_new _ _ _ _) (by simp [Value.oneCell']) (by decide) (by unfold maxLen; omega) (by omega) (by have := HQ7.gr.size; simp; omega) (w7.heap.size + 1) (by simp) ?_; intro g cap w8 hown8 hgrow8 hat8 hlt8; have HQ8 := (HQ7.alloc (.cells #[.string t6, .string t7] 438)).grown (hrow7.alloc _) hgrow8 (by decide) (by decide); have q8 := HQ8.cell (i := 1) rfl; have qf8 := HQ8.free 1)
          have HQ9 := HQ8.set hcge 1 (.slice (some ⟨g, 0, none⟩) (n + 1) cap)
          have hrow9 := row_set (i := 1) (u := .slice (some ⟨g, 0, none⟩) (n + 1) cap) hown8 HQ8.q (by decide)
          refine (is_gen 6 (by decide) (by decide) b v ts F p7 bad7 dp4 _ _ (by decide) HQ9.sc (HQ9.row hr) hs hF7).mono ?_
          rintro e w10 ⟨r, p10, rfl, ha10, hF10, hI10, hp10⟩
          have HQ10 := HQ9.step ha10
          have hrow10 := row_step HQ9.sc ha10 hrow9 (by decide)
          have HI10 := hide hI10
          clear hI10 ha10 ha7 ha6 hgrow8 hat8 hown8 q8 qf8 q7 qf7
          go_wp2_with fail
          go_roundg (gk - 1)
          case measure => omega
          case rel =>
            refine ⟨r, bad7, p10, n + 1, f1, _, _, rfl, HQ10, hrow10, hF10, by omega, srcs_next HT6.out HC6.out HC7.out HI10.out, ?_, ?_⟩
            · rintro rfl
              obtain ⟨e6, e7⟩ := cur_must (by decide) hF6 hF7 HC7.out
              subst e6
              obtain ⟨_, e8⟩ := cur_must (by decide) hFq hF6 HC6.out
              rcases HI10.out with ⟨rfl, _⟩ | ⟨rfl, hc, _⟩
              · have := (hp10 rfl).1; omega
              · have := cur_inj hF7 hF10 hc; omega
            · rintro rfl rfl
              obtain ⟨e6, e7⟩ := cur_must (by decide) hF6 hF7 HC7.out
              subst e6
              obtain ⟨_, e8⟩ := cur_must (by decide) hFq hF6 HC6.out
              have := (hp10 rfl).1
              omega
        · have hfin : Hid (T2 = Cur ts q bad) := hide (by
            rw [HT6.out]
            cases bad
            · cases more
              · (cases Cur ts q false <;> rfl)
              · exact (hcont ⟨rfl, rfl⟩).elim
            · rfl)
          clear hk hn5 hrow HT6
          cases more
          · go_wp2_with fail
            go_meet
            case rel => exact ⟨bad, q, x1, HQ, hFq, hfin.out, hge⟩
          · cases bad
            · exact (hcont ⟨rfl, rfl⟩).elim
            · go_wp2_with fail
              go_meet
              case rel => exact ⟨true, q, x1, HQ, hFq, hfin.out, hge⟩
    case rest =>
      clear HQ5 ha5 HQ4 hge5
      obtain ⟨bad6, p6, x1, HQ6, hF6, hT6, hge6⟩ := hcut
      have HT6 := hide hT6
      clear hT6
      go_wp2_with fail
      refine (is_gen 16 (by decide) (by decide) b v ts F p6 bad6 dp4 _ _ (by decide) HQ6.sc (HQ6.row hr) hs hF6).mono ?_
      rintro e w7 ⟨r7, p7, rfl, ha7, hF7, hI7, hp7⟩
      have HQ7 := HQ6.step ha7
      have HI7 := hide hI7
      have hge7 : bad6 = false → (p : Int) + 1 ≤ p7 := by
        rintro rfl
        have := hge6 rfl
        rcases HI7.out with ⟨rfl, _⟩ | ⟨rfl, hc, _⟩
        · have := (hp7 rfl).1; omega
        · have := cur_inj hF6 hF7 hc; omega
      clear hI7 ha7 HQ6 hge6
      go_upto_if 72 with fail
      go_cut [10] (fun m wr => ∃ (bad : Bool) (q dp : Int) (x2 : Value), QBase w b v c q bad dp #[x0, x1, x2, .slice none 0 0, .pointer none] wr ∧ Fit ts F q bad ∧ CondTo 16 f (Cur ts p6 bad6) (d + 1) dp4 (Cur ts q bad) dp ∧ (bad = false → (p : Int) + 1 ≤ q))
      case first =>
        cases r7
        · go_wp2_with fail
          go_meet
          case rel => exact ⟨_, _, _, _, HQ7, hF7, cond_no (by decide) HI7.out, hge7⟩
        · obtain ⟨e7, e8⟩ := hp7 rfl
          have hge8 := hge7 e8
          go_wp2_with fail
          refine (cond_gen f ih b v ts F p7 bad6 dp4 (d + 1) _ HQ7.sc (HQ7.row hr) hs hF7 (HFF.out f (by omega)) (by omega) (by omega) (by omega) (fun e => by have := hge7 e; omega)).mono ?_
          rintro e w8 ⟨x8, p8, bad8, dp8, rfl, ha8, hF8, hG8, hge9⟩
          have HQ8 := HQ7.step ha8
          have HG8 := hide hG8
          have q8 := HQ8.cell (i := 2) rfl
          have qf8 := HQ8.free 2
          clear hG8
          go_wp2_with fail
          go_meet
          case rel =>
            refine ⟨_, _, _, _, HQ8.set hcge 2 (.pointer (some x8)), hF8, cond_yes HI7.out HG8.out, fun e => ?_⟩
            have := hge9 e
            omega
      case rest =>
        clear HQ7 hge7
        obtain ⟨bad9, p9, dp9, x2, HQ9, hF9, hW9, hge9⟩ := hcut
        have HW9 := hide hW9
        clear hW9
        go_wp2_with fail
        refine (is_gen 17 (by decide) (by decide) b v ts F p9 bad9 dp9 _ _ (by decide) HQ9.sc (HQ9.row hr) hs hF9).mono ?_
        rintro e w10 ⟨r10, p10, rfl, ha10, hF10, hI10, hp10⟩
        have HQ10 := HQ9.step ha10
        have HI10 := hide hI10
        have hge10 : bad9 = false → (p : Int) + 1 ≤ p10 := by
          rintro rfl
          have := hge9 rfl
          rcases HI10.out with ⟨rfl, _⟩ | ⟨rfl, hc, _⟩
          · have := (hp10 rfl).1; omega
          · have := cur_inj hF9 hF10 hc; omega
        clear hI10 ha10 HQ9 hge9
        go_upto_if 82 with fail
        go_cut [10, 11] (fun m m2 wr => ∃ (bad : Bool) (q dp : Int) (x3 : Value), QBase w b v c q bad dp #[x0, x1, x2, x3, .pointer none] wr ∧ Fit ts F q bad ∧ GroupTo (ts.length + 2) (Cur ts p9 bad9) (Cur ts q bad) ∧ (bad = false → (p : Int) + 1 ≤ q ∧ dp = dp9))
        case first =>
          cases r10
          · go_wp2_with fail
            go_meet
            case rel => exact ⟨_, _, _, _, HQ10, hF10, group_no HI10.out, fun e => ⟨hge10 e, rfl⟩⟩
          · obtain ⟨e7, e8⟩ := hp10 rfl
            go_wp2_with fail
            refine (must_gen 18 (by decide) (by decide) b v ts F p10 bad9 _ _ _ (by decide) HQ10.sc (HQ10.row hr) hs hF10).mono ?_
            rintro e w11 ⟨rfl, p11, bad11, ha11, hF11, hC11⟩
            have HQ11 := HQ10.step ha11
            have HC11 := hide hC11
            have hge11 : bad11 = false → (p : Int) + 1 ≤ p11 := by
              rintro rfl
              have e1 := cur_must (by decide) hF10 hF11 HC11.out
              have := hge10 e1.1
              omega
            clear hC11 hge10 HQ10
            generalize hT3 : (Cur ts p11 bad11).bind (fun ks => colsP (ts.length + 2) ks) = T3
            have HT3 := hide hT3
            clear hT3
            go_wp2_with fail
            go_loopg [11] (2 * ts.length + 10) (fun k m wr => ∃ (more bad : Bool) (q dp : Int) (n f1 : Nat) (x3 : Value) (xs : List Value), m = .bool more ∧ QBase w b v c q bad dp #[x0, x1, x2, x3, .pointer none] wr ∧ wr.ownsRow w.heap.size 386 1 x3 n xs ∧ Fit ts F q bad ∧ n ≤ 500 ∧ (T3 = (Cur ts q bad).bind fun ks => if more then colsP f1 ks else some ks) ∧ (bad = false → (p : Int) + 1 ≤ q ∧ dp = dp9) ∧ (bad = false → more = true → ts.length - q < k ∧ (n : Int) ≤ q ∧ ts.length - q + 1 ≤ f1))
            case atStart =>
              refine ⟨true, bad11, p11, dp9, 0, ts.length + 2, .slice none 0 0, [], rfl, HQ11, World.ownsRow_nil _ _ _ _, hF11, by omega, HT3.out.symm, fun e => ⟨hge11 e, rfl⟩, ?_⟩
              intro e _; have := hge11 e; omega
            case round =>
              obtain ⟨more, bad, q, dp, n, f1, x3, xs, rfl, HQ, hrow, hFq, hn5, hT6, hge, hk⟩ := hrel
              obtain ⟨c0, c1, c2, c3⟩ := HQ.sc.cells
              have HT6 := hide hT6
              clear hT6
              by_cases hcont : more = true ∧ bad = false
              · obtain ⟨rfl, rfl⟩ := hcont
                obtain ⟨hk1, hk2, hk3⟩ := hk rfl rfl
                obtain ⟨hge', hdp⟩ := hge rfl
                have HDP := hide hdp
                have hql := hFq.2.2.1 rfl
                clear hk hge hdp
                obtain ⟨f1, rfl⟩ : ∃ g, f1 = g + 1 := ⟨f1 - 1, by omega⟩
                have q0 := HQ.cell (i := 3) rfl
                have qf := HQ.free 3
                have hcl := lt_of_block HQ.q
                have HQd : QBase w b v c q false dp #[x0, x1, x2, x3, .pointer none] wr.drew := ⟨HQ.sc, HQ.gr.trans (grownBy_drew _ _), HQ.q⟩
                have hrowd : wr.drew.ownsRow w.heap.size 386 1 x3 n xs := hrow.drew
                go_wp2_with fail
                go_region_law (first
                  | (refine step_append_lies _ (by rfl) _ _ 384 (by rfl) w.heap.size 386 i0 (.pointer none) 1 8 Tryz.underlying384 hi hz0 hz1 hz2 rfl (by decide) x3 n xs (by rfl) (hrow4.alloc _) ⟨w4.heap.size, 0, none⟩ 1 1 [.pointer (some x4)] (by rfl) (by rfl) (cell_one_new _ _ _) (by simp [Value.oneCell']) (by decide) (by unfold maxLen; omega) (by omega) (by have := HQ4.gr.size; simp; omega) (w4.heap.size + 1) (by simp) ?_; intro g cap w5 hown5 hgrow5 hat5 hlt5; have HQ5 := (HQ4.alloc (.cells #[.pointer (some x4)] 386)).grown (hrow4.alloc _) hgrow5 (by decide) (by decide); have q5 := HQ5.cell (i := 3) rfl; have qf5 := HQ5.free 3)
                  | (go_simp; go_at_call 328; refine (column_gen b v ts F q false dp _ HQd.sc (HQd.row hr) hs hFq).mono ?_; rintro e w4 ⟨x4, p4, bad4, dp4, rfl, ha4, hF4, hG4, hge4⟩; have HQ4 := HQd.step ha4; have hrow4 := row_step HQd.sc ha4 hrowd (by decide); have q4 := HQ4.cell (i := 3) rfl; have qf4 := HQ4.free 3; have hc4 := lt_of_block HQ4.q))
                all_goals
                  have HQ6 := HQ5.set hcge 3 (.slice (some ⟨g, 0, none⟩) (n + 1) cap)
                  have hrow6 := row_set (i := 3) (u := .slice (some ⟨g, 0, none⟩) (n + 1) cap) hown5 HQ5.q (by decide)
                  have HG4 := hide hG4
                  clear hgrow5 hat5 hown5 q5 qf5 q4 qf4 q0 qf hrow4 hrowd hrow hG4
                  go_wp2_with fail
                  refine (is_gen 6 (by decide) (by decide) b v ts F p4 bad4 dp4 _ _ (by decide) HQ6.sc (HQ6.row hr) hs hF4).mono ?_
                  rintro e w7 ⟨r, p7, rfl, ha7, hF7, hI7, hp7⟩
                  have HQ7 := HQ6.step ha7
                  have hrow7 := row_step HQ6.sc ha7 hrow6 (by decide)
                  have HI7 := hide hI7
                  clear hI7 ha7 ha4
                  go_wp2_with fail
                  go_roundg (gk - 1)
                  case measure => omega
                  case rel =>
                    refine ⟨r, bad4, p7, dp4, n + 1, f1, _, _, rfl, HQ7, hrow7, hF7, by omega, cols_next HT6.out HG4.out HI7.out, ?_, ?_⟩
                    · rintro rfl
                      obtain ⟨h1, h2⟩ := hge4 rfl
                      refine ⟨?_, h2.trans HDP.out⟩
                      rcases HI7.out with ⟨rfl, _⟩ | ⟨rfl, hc, _⟩
                      · have := (hp7 rfl).1; omega
                      · have := cur_inj hF4 hF7 hc; omega
                    · rintro rfl rfl
                      obtain ⟨h1, h2⟩ := hge4 rfl
                      have := (hp7 rfl).1
                      omega
              · have hfin : Hid (T3 = Cur ts q bad) := hide (by
                  rw [HT6.out]
                  cases bad
                  · cases more
                    · (cases Cur ts q false <;> rfl)
                    · exact (hcont ⟨rfl, rfl⟩).elim
                  · rfl)
                clear hk hn5 hrow HT6
                have HH : GroupTo (ts.length + 2) (Cur ts p9 bad9) (Cur ts q bad) := group_yes HI10.out HC11.out (hfin.out.symm.trans HT3.out.symm)
                cases more
                · go_wp2_with fail
                  go_meet
                  case rel => exact ⟨bad, q, dp, x3, HQ, hFq, HH, hge⟩
                · cases bad
                  · exact (hcont ⟨rfl, rfl⟩).elim
                  · go_wp2_with fail
                    go_meet
                    case rel => exact ⟨true, q, dp, x3, HQ, hFq, HH, hge⟩
        case rest =>
          clear HQ10 hge10
          obtain ⟨bad12, p12, dp12, x3, HQ12, hF12, hG12, hge12⟩ := hcut
          have HG12 := hide hG12
          clear hG12
          go_wp2_with fail
          refine (is_gen 19 (by decide) (by decide) b v ts F p12 bad12 dp12 _ _ (by decide) HQ12.sc (HQ12.row hr) hs hF12).mono ?_
          rintro e w13 ⟨r13, p13, rfl, ha13, hF13, hI13, hp13⟩
          have HQ13 := HQ12.step ha13
          have HI13 := hide hI13
          have hge13 : bad12 = false → (p : Int) + 1 ≤ p13 := by
            rintro rfl
            have := (hge12 rfl).1
            rcases HI13.out with ⟨rfl, _⟩ | ⟨rfl, hc, _⟩
            · have := (hp13 rfl).1; omega
            · have := cur_inj hF12 hF13 hc; omega
          have hdp12 : bad12 = false → dp12 = dp9 := fun e => (hge12 e).2
          have HDP12 := hide hdp12
          clear hI13 ha13 HQ12 hge12 hdp12
          have fin : ∀ (bad : Bool) (q dp : Int) (x4 : Value) (wr : World), QBase w b v c q bad dp #[x0, x1, x2, x3, x4] wr → Fit ts F q bad → CondTo 19 f (Cur ts p12 bad12) (d + 1) dp12 (Cur ts q bad) dp → (bad = false → (p : Int) + 1 ≤ q) → ∃ p' bad' dp', After w b v p' bad' dp' wr ∧ Fit ts F p' bad' ∧ GenRes (R (f + 1) 2 (Kds ts p) d) (Cur ts p' bad') deep dp' ∧ (bad' = false → (p : Int) ≤ p') := by
            intro bad q dp x4 wr hq hf1 hc1 hg1
            refine ⟨q, bad, dp, ⟨hq.sc, hq.gr⟩, hf1, ?_, fun e => by have := hg1 e; omega⟩
            exact query_all (n := ts.length) HC3.out HT.out HT4.out HC5.out (fun ks => cur_len) (HT2.out.trans HT6.out) HW9.out (fun ks => cur_len) HG12.out (fun ks hks => HDP12.out (cur_isgood hks)) hc1
          have FIN := hide fin
          clear fin
          cases r13
          · go_wp2_with fail
            go_ret
            exact ⟨⟨_, rfl⟩, FIN.out _ _ _ _ _ HQ13 hF13 (cond_no (by decide) HI13.out) hge13⟩
          · obtain ⟨e7, e8⟩ := hp13 rfl
            have hge14 := hge13 e8
            go_wp2_with fail
            refine (cond_gen f ih b v ts F p13 bad12 dp12 (d + 1) _ HQ13.sc (HQ13.row hr) hs hF13 (HFF.out f (by omega)) (by omega) (by omega) (by omega) (fun e => by have := hge13 e; omega)).mono ?_
            rintro e w14 ⟨x14, p14, bad14, dp14, rfl, ha14, hF14, hG14, hge15⟩
            have HQ14 := HQ13.step ha14
            have HG14 := hide hG14
            have q14 := HQ14.cell (i := 4) rfl
            have qf14 := HQ14.free 4
            clear hG14
            go_wp2_with fail
            go_ret
            exact ⟨⟨_, rfl⟩, FIN.out _ _ _ _ _ (HQ14.set hcge 4 (.pointer (some x14))) hF14 (cond_yes HI13.out HG14.out) (fun e => by have := hge15 e; omega)⟩

end Go.Proofs.YtbkeflgafjnefaaGreatDoor
namespace Go.Proofs.YtbkeflgafjnefaaGreatDoor
open Go.RowKit
open Trib

theorem gen_out {w w' : World} {b : Nat} {v : Value} {ts : List ByteArray} {n : Nat} {deep F p' dp' : Int} {bad' : Bool} {o : Option (List Nat × Int)} (ha : After w b v p' bad' dp' w') (hF : Fit ts F p' bad') (hG : GenRes o (Cur ts p' bad') deep dp') (hge : bad' = false → (n : Int) ≤ p') : Out w b v ts n deep F w' o := by
  obtain ⟨h0, h1, h2, h3, h5⟩ := hF
  cases bad'
  · obtain ⟨m, rfl⟩ := Int.eq_ofNat_of_zero_le h0
    have h2' := h2 rfl
    have hge' := hge rfl
    match o, hG with
    | none, hG => cases hG
    | some (ks, mm), hG =>
      obtain ⟨e1, e2⟩ := hG
      rw [cur_good, Option.some_inj] at e1
      subst e2
      exact ⟨m, e1, by omega, by omega, ha⟩
  · match o, hG with
    | none, _ => exact ⟨p', dp', h0, h1, ha⟩
    | some (ks, mm), hG => cases hG.1
theorem query_step (f : Nat) (ih : CondOk f) : QueryOk (f + 1) := by
  intro b v ts p deep d w h hr hp hs hd0 hd1 hf hn
  refine (query_gen f ih b v ts p deep d w h hr hp hs hd0 hd1 hf hn).mono ?_
  rintro e w' ⟨hx, p', bad', dp', ha, hF, hG, hge⟩
  exact ⟨hx, gen_out ha hF hG hge⟩
theorem cond_step (f : Nat) (ih : CondOk f) (iq : QueryOk f) : CondOk (f + 1) := by
  intro b v ts p deep d w h hr hp hs hd0 hd1 hf hn
  by_cases h22 : kAt ts p = 22
  · exact cond_not f ih b v ts p deep d w h hr hs hd0 hd1 hf hn h22
  by_cases h25 : kAt ts p = 25
  · exact cond_exists f iq query_bad b v ts p deep d w h hr hs hd0 hd1 hf hn h25
  by_cases h4 : kAt ts p = 4 ∧ jointL 0 (Kds ts p) = true
  · exact cond_joint f ih b v ts p deep d w h hr hs hd0 hd1 hf hn h4.1 h4.2
  by_cases he : Kds ts p = []
  · have hge : ts.length ≤ p := by
      have := congrArg List.length he
      rw [Kds_len] at this
      simp at this
      omega
    have hR : R (f + 1) 1 (Kds ts p) d = none := by rw [he, R]; rfl
    rw [hR]
    refine (cond_end b v ts p deep d w h hr (by omega) hs).mono ?_
    rintro e w' ⟨hx, ha⟩
    exact ⟨hx, p, _, by omega, by unfold Far; omega, ha⟩
  · exact cond_cmp f b v ts p deep d w h hr hp hs hd0 hd1 hf hn h22 h25 h4 he
theorem all_ok : ∀ f, CondOk f ∧ QueryOk f := by
  intro f
  induction f with
  | zero => exact ⟨fun b v ts p deep d w _ _ _ _ _ _ _ hn => by omega, fun b v ts p deep d w _ _ _ _ _ _ _ hn => by omega⟩
  | succ f ih => exact ⟨cond_step f ih.1 ih.2, query_step f ih.1⟩
end Go.Proofs.YtbkeflgafjnefaaGreatDoor
namespace Go.Proofs.YtbkeflgafjnefaaGreatDoor
open Go.RowKit
open Trib

theorem small_of_tokens {s : ByteArray} {ts : List ByteArray} (hs : s.size ≤ 400) (hl : ts.length ≤ s.size) (h : tokensOf s = some (ts.map (·.data.toList))) : Small ts := by
  have hf := tkRun_fine _ _ _ _ h
  refine ⟨by omega, fun t ht => ?_, fun t ht hk => ?_⟩
  · have := (hf _ (List.mem_map_of_mem ht)).1
    rw [len_eq] at this
    unfold maxLen; omega
  · have := (hf _ (List.mem_map_of_mem ht)).2 ((kindOf_quote _).1 hk)
    rwa [len_eq] at this
theorem row_of_owns {w : World} {base n : Nat} {v : Value} {ts : List ByteArray} (h : w.ownsRow base 9 1 v n (ts.map Value.string)) (hn : n = ts.length) (o : Obj) : RowIs (w.alloc o) w.heap.size v ts := by
  subst hn
  rcases h.2 with ⟨rfl, h0⟩ | ⟨g, cap, cur, rfl, _, hg, _, _, _, hc⟩
  · exact Or.inl ⟨rfl, List.eq_nil_of_length_eq_zero h0⟩
  · have hlt := lt_of_block hg
    refine Or.inr ⟨g, cap, cur, rfl, by omega, by simp; omega, (Below.heap_alloc w o g hlt).trans hg, by rw [Nat.mul_one] at hc; exact hc⟩
end Go.Proofs.YtbkeflgafjnefaaGreatDoor
