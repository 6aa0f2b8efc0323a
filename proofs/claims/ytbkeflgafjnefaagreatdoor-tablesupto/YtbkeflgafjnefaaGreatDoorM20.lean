/- Towards the law of tables: Q19, Q20, Q21, Q22. -/
import Derived.Test.YtbkeflgafjnefaaGreatDoorM19
namespace Go.Proofs.YtbkeflgafjnefaaGreatDoor
open Go.RowKit
open Trib
theorem row_shape {w : World} {base n : Nat} {e : TypeId} {size : Nat} {v : Value} {xs : List Value} (h : w.ownsRow base e size v n xs) : ∃ a cap, v = .slice a n cap := by
  rcases h.2 with ⟨rfl, rfl⟩ | ⟨g, cap, cur, rfl, _⟩
  · exact ⟨_, _, rfl⟩
  · exact ⟨_, _, rfl⟩
theorem size_set (w : World) (a : Addr) (x : Value) : (w.setCell a x).heap.size = w.heap.size := by show (Array.modify _ _ _).size = _; rw [Array.size_modify]
theorem Rd.lenO {w : World} {b : Nat} {v : Value} {ts : List ByteArray} {s : Option (List ByteArray)} (h : Rd w b v ts s) : ∀ l, s = some l → l.length ≤ ts.length := fun l hl => by subst hl; exact h.len
theorem len_map {α : Type} {o : Option (List ByteArray × α)} {l : List ByteArray} (h : o.map (·.1) = some l) : ∃ x, o = some x ∧ x.1 = l := by
  obtain ⟨x, hx, e⟩ := Option.map_eq_some_iff.1 h
  exact ⟨x, hx, e⟩
theorem tkR_le {k : Nat} {s : Option (List ByteArray)} {l : List ByteArray} (h : tkR k s = some l) : ∃ l0, s = some l0 ∧ l.length + 1 ≤ l0.length := by
  cases s with
  | none => cases h
  | some l0 =>
    rw [tkR_some] at h
    obtain ⟨a, ha, rfl⟩ := Option.map_eq_some_iff.1 h
    exact ⟨l0, rfl, by have := takeT_len ha; omega⟩
theorem bind_le {P : List ByteArray → Option (List ByteArray × Tr)} (hP : ∀ l x, P l = some x → x.1.length ≤ l.length) {s : Option (List ByteArray)} {l : List ByteArray} (h : (s.bind P).map (·.1) = some l) : ∃ l0, s = some l0 ∧ l.length ≤ l0.length := by
  obtain ⟨x, hx, rfl⟩ := len_map h
  obtain ⟨l0, rfl, hx'⟩ := Option.bind_eq_some_iff.1 hx
  exact ⟨l0, rfl, hP _ _ hx'⟩
theorem optT_le {k f : Nat} {l : List ByteArray} {x : List ByteArray × Tr} (h : optT k f l = some x) : x.1.length ≤ l.length := by
  unfold optT at h
  split at h
  · have := CT_le h
    rw [List.length_tail] at this; omega
  · obtain rfl := Option.some.inj h; exact Nat.le_refl _
theorem tail_le {s : Option (List ByteArray)} {l : List ByteArray} {k : Nat} (hk0 : k ≠ 0) (hk : hkc s = k) (h : tailc s = some l) : ∃ l0, s = some l0 ∧ l.length + 1 ≤ l0.length := by
  obtain ⟨l0, rfl, hl⟩ := hkc_some hk hk0
  obtain ⟨t0, r0, rfl, _⟩ := hk_some hl hk0
  obtain rfl : r0 = l := Option.some.inj h
  exact ⟨_, rfl, by simp⟩
theorem listG_le {P : Nat → List ByteArray → Option (List ByteArray × Tr)} (hP : ∀ n l x, P n l = some x → x.1.length ≤ l.length) : ∀ (f : Nat) (l : List ByteArray) (x : List ByteArray × Tr), listG P f l = some x → x.1.length ≤ l.length := by
  intro f
  induction f with
  | zero => intro l x h; cases h
  | succ f ih =>
    intro l x h
    rw [listG] at h
    obtain ⟨a, ha, h⟩ := Option.bind_eq_some_iff.1 h
    have h1 := hP _ _ _ ha
    split at h
    · obtain ⟨y, hy, h⟩ := Option.bind_eq_some_iff.1 h
      obtain rfl := Option.some.inj h
      have := ih _ _ hy
      rw [List.length_tail] at this
      show y.1.length ≤ _
      omega
    · obtain rfl := Option.some.inj h
      exact h1
theorem grpT_le {l : List ByteArray} {x : List ByteArray × Tr} (h : grpT l = some x) : x.1.length ≤ l.length := by
  unfold grpT at h
  split at h
  · obtain ⟨a, ha, h⟩ := Option.bind_eq_some_iff.1 h
    have h1 := takeT_len ha
    have h2 := listG_le (fun n l x => colT_le) _ _ _ h
    rw [List.length_tail] at h1
    omega
  · obtain rfl := Option.some.inj h; exact Nat.le_refl _
theorem srcsA_le {s : Option (List ByteArray)} {l : List ByteArray} (h : (s.bind srcsA).map (·.1) = some l) : ∃ l0, s = some l0 ∧ l.length ≤ l0.length := by
  have key : ∀ (f : Nat) (l0 : List ByteArray) (x : List ByteArray × List (ByteArray × ByteArray)), srcsT f l0 = some x → x.1.length ≤ l0.length := by
    intro f
    induction f with
    | zero => intro l0 x h; cases h
    | succ f ih =>
      intro l0 x h
      rw [srcsT] at h
      obtain ⟨a, ha, h⟩ := Option.bind_eq_some_iff.1 h
      have h1 := srcT_le ha
      split at h
      · obtain ⟨y, hy, h⟩ := Option.bind_eq_some_iff.1 h
        obtain rfl := Option.some.inj h
        have := ih _ _ hy
        rw [List.length_tail] at this
        show y.1.length ≤ _
        omega
      · obtain rfl := Option.some.inj h
        exact h1
  obtain ⟨x, hx, rfl⟩ := Option.map_eq_some_iff.1 h
  obtain ⟨l0, rfl, hx'⟩ := Option.bind_eq_some_iff.1 hx
  exact ⟨l0, rfl, key _ _ _ hx'⟩
set_option maxHeartbeats 16000000 in
set_option maxRecDepth 100000 in
theorem query_part (f : Nat) (b : Nat) (v : Value) (ts : List ByteArray) (c : Option (List ByteArray)) (w : World) (h : Rd w b v ts c) (hg : Glob w) (hs : Sm ts) (h8 : 8 ≤ b) (hroom : Room (f + 2) 4 c)
    (hC : ∀ c', Room (f + 1) 3 c' → PartAt 266 b v ts (CT (f + 1) 1) c') :
    Calls Tryz.prog 189 #[.pointer (some ⟨b, 0, none⟩)] w (PartPost w b v ts (c.bind (CT (f + 2) 2))) := by
  obtain ⟨s1, h1⟩ : ∃ s, tkR 14 c = s := ⟨_, rfl⟩
  obtain ⟨o2, h2⟩ : ∃ s, s1.bind (CT (f + 1) 3) = s := ⟨_, rfl⟩
  obtain ⟨s3, h3⟩ : ∃ s, tkR 15 (o2.map (·.1)) = s := ⟨_, rfl⟩
  obtain ⟨o4, h4⟩ : ∃ s, s3.bind srcsA = s := ⟨_, rfl⟩
  obtain ⟨o5, h5⟩ : ∃ s, (o4.map (·.1)).bind (optT 16 (f + 1)) = s := ⟨_, rfl⟩
  obtain ⟨s5, h5'⟩ : ∃ s, o5.map (·.1) = s := ⟨_, rfl⟩
  obtain ⟨o7, h7⟩ : ∃ s, s5.bind grpT = s := ⟨_, rfl⟩
  obtain ⟨s7, h7'⟩ : ∃ s, o7.map (·.1) = s := ⟨_, rfl⟩
  obtain ⟨o8, h8'⟩ : ∃ s, s7.bind (optT 19 (f + 1)) = s := ⟨_, rfl⟩
  obtain ⟨e1, e2⟩ := q_chain (f + 1) c h1 h2 h3 h4 h5 h5' h7 h7' h8'
  unfold PartPost
  rw [← e1]
  have E2 := hide e2
  clear e1 e2
  -- how long what is left can be
  have L1 : ∀ l, s1 = some l → 8 * l.length + 4 ≤ f + 2 - 8 ∧ 8 * l.length + 12 ≤ f + 2 := fun l hl => by
    obtain ⟨l0, e, hle⟩ := tkR_le (h1.trans hl)
    have := hroom l0 e
    omega
  have L4 : ∀ l, o4.map (·.1) = some l → 8 * l.length + 12 ≤ f + 2 := fun l hl => by
    rw [← h4] at hl
    obtain ⟨l3, e3, hl3⟩ := srcsA_le hl
    obtain ⟨l2, e2, hl2⟩ := tkR_le (h3.trans e3)
    rw [← h2] at e2
    obtain ⟨l1, e1, hl1⟩ := bind_le (fun _ _ => CT_le) e2
    have := (L1 l1 e1).2
    omega
  have L5 : ∀ l, s5 = some l → 8 * l.length + 12 ≤ f + 2 := fun l hl => by
    rw [← h5', ← h5] at hl
    obtain ⟨l4, e4, hl4⟩ := bind_le (fun _ _ => optT_le) hl
    have := L4 l4 e4
    omega
  have L7 : ∀ l, s7 = some l → 8 * l.length + 12 ≤ f + 2 := fun l hl => by
    rw [← h7', ← h7] at hl
    obtain ⟨l5, e5, hl5⟩ := bind_le (fun _ _ => grpT_le) hl
    have := L5 l5 e5
    omega
  have hblt := h.lt
  have hst1 := srcs_yes (s := s3) (N := ts.length)
  rw [h4] at hst1
  have h2' : s1.bind (listG (fun n => CT n 0) (f + 1)) = o2 := by
    rw [← h2]; congr 1; funext l; rw [CT_list]
  have Q0 : QS w b v ts (w.alloc (.cells #[.slice none 0 0, .slice none 0 0, .pointer none, .slice none 0 0, .pointer none] 175)) c #[.slice none 0 0, .slice none 0 0, .pointer none, .slice none 0 0, .pointer none] :=
    ⟨h.alloc _, World.grownBy_alloc _ _ _, heap_alloc_new w _⟩
  have HL4 := hide L4
  have HL7 := hide L7
  have H5 := hide h5
  have H5' := hide h5'
  have H7 := hide h7
  have H7' := hide h7'
  have H8 := hide h8'
  clear L4 L5 L7 h5 h5' h7 h7' h8' h2
  go_enter Tryz.func189, Tryz.ntmps189
  go_wp2_with fail
  refine (expectE 14 14 rfl (by decide) b v ts c s1 _ rfl h1 _ _ (by simp) Q0.rd hs.1).mono ?_
  rintro e w1 ⟨rfl, hR1, hg1⟩
  have Q1 := Q0.call hblt hR1 hg1
  have z1 : w.heap.size + 1 ≤ w1.heap.size := by have := hg1.size; simpa using this
  go_wp2_with fail
  refine (list_expr (fun n => CT n 0) 8 1 f (by decide) b v ts s1 w1 Q1.rd (hg.grown Q1.gr h8) hs h8 (fun n l x => CT_le) (fun n c' _ hc' => pexpr_all n b v ts hs h8 c' hc') (fun r hr => by have := (L1 r hr).2; omega)).mono ?_
  rw [h2']
  rintro e w2 ⟨ev, es, rfl, hrow2, hR2, hg2, hI2⟩
  obtain ⟨ea, ecap, rfl⟩ := row_shape hrow2
  have Q2 := Q1.call hblt hR2 hg2
  have z2 := hg2.size
  have q20 := Q2.cell (i := 0) rfl
  have q2f := Q2.free 0
  have Q2' := Q2.set 0 (.slice ea es.length ecap)
  go_wp2_with fail
  refine (expectE 15 15 rfl (by decide) b v ts _ s3 _ rfl h3 _ _ (size_set _ _ _) Q2'.rd hs.1).mono ?_
  rintro e w3 ⟨rfl, hR3, hg3⟩
  have Q3 := Q2'.call hblt hR3 hg3
  have z3 := hg3.size
  rw [size_set] at z3
  have hst2 := hst1 hR3.lenO
  go_wp2_with fail
  refine (list_src ts.length b v ts s3 w3 Q3.rd hs hR3.lenO).mono ?_
  rw [← hst2]
  rintro e w4 ⟨sv, sn, sx, rfl, hrow4, hR4, hg4, hI4⟩
  obtain ⟨sa, scap, rfl⟩ := row_shape hrow4
  have Q4 := Q3.call hblt hR4 hg4
  have z4 := hg4.size
  have q41 := Q4.cell (i := 1) rfl
  have q4f := Q4.free 1
  have Q4' := Q4.set 1 (.slice sa sn scap)
  clear hst1 hst2 h1 h2' h3 h4
  have HI2 := hide hI2
  have HI4 := hide hI4
  clear hI2 hI4
  go_wp2_with fail
  generalize hW4 : w4.setCell ⟨w.heap.size, 1, none⟩ (.slice sa sn scap) = W4 at *
  have zW4 : W4.heap.size = w4.heap.size := by rw [← hW4, size_set]
  have S24 : Stays (w.heap.size + 1) w2 W4 := by
    have a1 : Stays (w.heap.size + 1) w2 (w2.setCell ⟨w.heap.size, 0, none⟩ (.slice ea es.length ecap)) := stays_set _ _ (by omega)
    have a2 := a1.trans (stays_grown hg3 (by omega)) (by rw [size_set]; exact Nat.le_refl _)
    have a3 := a2.trans (stays_grown hg4 (by omega)) (by omega)
    have a4 := a3.trans (stays_set w4 (.slice sa sn scap) (o := 1) (show w.heap.size < w.heap.size + 1 by omega)) (by omega)
    rw [hW4] at a4
    exact a4
  have S44 : Stays (w.heap.size + 1) w4 W4 := by
    have a4 := stays_set w4 (.slice sa sn scap) (o := 1) (show w.heap.size < w.heap.size + 1 by omega)
    rw [hW4] at a4
    exact a4
  clear hW4
  refine (accept_any b v ts _ 16 W4 Q4'.rd hs.1).mono ?_
  have hB : ∃ B, decide (hkc (o4.map (·.1)) = 16) = B := ⟨_, rfl⟩
  obtain ⟨B, hB⟩ := hB
  rw [hB]
  rintro e w5 ⟨rfl, hR5, hg5⟩
  have Q5 := Q4'.call hblt hR5 hg5
  have z5 := hg5.size
  have S5 : Stays (w.heap.size + 1) W4 w5 := stays_grown hg5 (by omega)
  go_upto_if 27 with fail
  go_cut [] (fun wr => ∃ (ws : List Value), QS w b v ts wr s5 #[.slice ea es.length ecap, .slice sa sn scap, optV ws, .slice none 0 0, .pointer none] ∧ Stays (w.heap.size + 1) W4 wr ∧ W4.heap.size ≤ wr.heap.size ∧ ∀ y, o5 = some y → Is wr (w.heap.size + 1) y.2 ws)
  case first =>
    cases B
    · have hne : hkc (o4.map (·.1)) ≠ 16 := by simpa using hB
      have hno := optTo_no (f := f + 1) (lo := w.heap.size + 1) (W := w5) hne
      have ha : accC 16 (o4.map (·.1)) = o4.map (·.1) := by unfold accC; rw [if_neg hne]
      rw [ha] at Q5
      have h5 := H5.out
      have h5' := H5'.out
      have e5 : s5 = o4.map (·.1) := by rw [← h5', ← h5]; exact hno.1.symm
      rw [← e5] at Q5
      have hI5 : ∀ y, o5 = some y → Is w5 (w.heap.size + 1) y.2 [] := fun y hy => hno.2 y.1 y.2 (by rw [h5]; exact hy)
      clear hB hno ha e5 h5 h5' hne
      go_wp2_with fail
      go_meet
      case rel => exact ⟨[], Q5, S5, z5, hI5⟩
    · have hye : hkc (o4.map (·.1)) = 16 := by simpa using hB
      have ha : accC 16 (o4.map (·.1)) = tailc (o4.map (·.1)) := by unfold accC; rw [if_pos hye]
      rw [ha] at Q5
      have hy5 := opt_yes (f := f + 1) (by decide) hye
      rw [H5.out] at hy5
      have hroom5 : Room (f + 1) 3 (tailc (o4.map (·.1))) := fun l hl => by
        obtain ⟨l0, e0, hl0⟩ := tail_le (by decide) hye hl
        have := HL4.out l0 e0
        omega
      have hcond := hC _ hroom5 w5 Q5.rd (hg.grown Q5.gr h8)
      rw [← hy5] at hcond
      clear hB ha hye hroom5 hy5
      go_wp2_with fail
      refine hcond.mono ?_
      rintro e w6 ⟨x6, rfl, hR6, hg6, hI6⟩
      have Q6 := Q5.call hblt hR6 hg6
      rw [H5'.out] at Q6
      have q62 := Q6.cell (i := 2) rfl
      have q6f := Q6.free 2
      have Q6' := Q6.set 2 (.pointer (some ⟨x6, 0, none⟩))
      have z6 := hg6.size
      have S6 := ((S5.trans (stays_grown hg6 (by omega)) z5).trans (stays_set w6 (.pointer (some ⟨x6, 0, none⟩)) (o := 2) (show w.heap.size < w.heap.size + 1 by omega)) (by omega))
      clear hcond
      go_wp2_with fail
      go_meet
      case rel =>
        refine ⟨[.pointer (some ⟨x6, 0, none⟩)], Q6', S6, by rw [size_set]; omega, fun y hy => ?_⟩
        exact ((hI6 y.1 y.2 hy).low (by omega)).kept (stays_set w6 _ (by omega))
  case rest =>
    obtain ⟨ws, Q6, S6, z6, hI6⟩ := hcut
    clear S5 z5 Q5 hg5 hR5 hB H5 H5'
    go_wp2_with fail
    refine (accept_any b v ts _ 17 wc Q6.rd hs.1).mono ?_
    have hB : ∃ B, decide (hkc s5 = 17) = B := ⟨_, rfl⟩
    obtain ⟨B2, hB⟩ := hB
    rw [hB]
    rintro e w7 ⟨rfl, hR7, hg7⟩
    have Q7 := Q6.call hblt hR7 hg7
    have z7 := hg7.size
    have S7 : Stays (w.heap.size + 1) wc w7 := stays_grown hg7 (by omega)
    generalize hWW : wc = W6 at *
    go_upto_if 34 with fail
    go_cut [] (fun wr => ∃ (gv : Value) (gs : List Value), QS w b v ts wr s7 #[.slice ea es.length ecap, .slice sa sn scap, optV ws, gv, .pointer none] ∧ Stays (w.heap.size + 1) W6 wr ∧ W6.heap.size ≤ wr.heap.size ∧ wr.ownsRow (w.heap.size + 1) 173 1 gv gs.length gs ∧ ∀ y, o7 = some y → Is wr (w.heap.size + 1) y.2 gs)
    case first =>
      cases B2
      · have hne : hkc s5 ≠ 17 := by simpa using hB
        have hno := grpTo_no (lo := w.heap.size + 1) (W := w7) hne
        have ha : accC 17 s5 = s5 := by unfold accC; rw [if_neg hne]
        rw [ha] at Q7
        have h7 := H7.out
        have h7' := H7'.out
        have e7 : s7 = s5 := by rw [← h7', ← h7]; exact hno.1.symm
        have hI7 : ∀ y, o7 = some y → Is w7 (w.heap.size + 1) y.2 [] := fun y hy => hno.2.2 y.1 y.2 (by rw [h7]; exact hy)
        rw [← e7] at Q7
        clear hB hno ha e7 h7 h7' hne
        go_wp2_with fail
        go_meet
        case rel => exact ⟨.slice none 0 0, [], Q7, S7, z7, World.ownsRow_nil _ _ _ _, hI7⟩
      · have hye : hkc s5 = 17 := by simpa using hB
        have ha : accC 17 s5 = tailc s5 := by unfold accC; rw [if_pos hye]
        rw [ha] at Q7
        have hy7 := grp_yes (N := ts.length) hye Q6.rd.lenO
        rw [H7.out] at hy7
        obtain ⟨s8, hs8⟩ : ∃ s, tkR 18 (tailc s5) = s := ⟨_, rfl⟩
        rw [hs8] at hy7
        have HY7 := hide hy7
        clear hB ha hye hy7
        go_wp2_with fail
        refine (expectE 18 18 rfl (by decide) b v ts _ s8 _ rfl hs8 w7 _ (by simp) Q7.rd hs.1).mono ?_
        rintro e w8 ⟨rfl, hR8, hg8⟩
        have Q8 := Q7.call hblt hR8 hg8
        have z8 := hg8.size
        go_wp2_with fail
        refine (list_col (fun _ => colT) 1 0 ts.length (by decide) b v ts s8 w8 Q8.rd (hg.grown Q8.gr h8) hs h8 (fun n l x => colT_le) (fun n c' _ _ w' h' _ => column_part b v ts c' w' h' hs.1) (fun r hr => by have := hR8.lenO r hr; omega)).mono ?_
        rw [← HY7.out]
        rintro e w9 ⟨gv, gs, rfl, hrow9, hR9, hg9, hI9⟩
        obtain ⟨ga, gcap, rfl⟩ := row_shape hrow9
        have Q9 := Q8.call hblt hR9 hg9
        rw [H7'.out] at Q9
        have z9 := hg9.size
        have q93 := Q9.cell (i := 3) rfl
        have q9f := Q9.free 3
        have Q9' := Q9.set 3 (.slice ga gs.length gcap)
        have hz := Q8.gr.size
        have hq8 : w.heap.size < w8.heap.size := (Array.getElem?_eq_some_iff.1 Q8.q).1
        have S9a := (S7.trans (stays_grown hg8 (by omega)) z7).trans (stays_grown hg9 (by omega)) (by omega)
        have Sset := stays_set w9 (.slice ga gs.length gcap) (o := 3) (show w.heap.size < w.heap.size + 1 by omega)
        have S9 := S9a.trans Sset (by omega)
        clear hs8
        go_wp2_with fail
        go_meet
        case rel =>
          exact ⟨.slice ga gs.length gcap, gs, Q9', S9, by rw [size_set]; omega, Sset.row (row_low (by omega) hrow9), fun y hy => ((hI9 y.1 y.2 hy).low (by omega)).kept Sset⟩
    case rest =>
      obtain ⟨gv, gs, Q10, S10, z10, hrow10, hI10⟩ := hcut
      clear S7 z7 Q7 hg7 hR7 hB H7 H7'
      go_wp2_with fail
      refine (accept_any b v ts _ 19 wc Q10.rd hs.1).mono ?_
      have hB : ∃ B, decide (hkc s7 = 19) = B := ⟨_, rfl⟩
      obtain ⟨B3, hB⟩ := hB
      rw [hB]
      rintro e w11 ⟨rfl, hR11, hg11⟩
      have Q11 := Q10.call hblt hR11 hg11
      have z11 := hg11.size
      have S11 : Stays (w.heap.size + 1) wc w11 := stays_grown hg11 (by omega)
      cases B3
      · have hne : hkc s7 ≠ 19 := by simpa using hB
        have hno := optTo_no (f := f + 1) (lo := w.heap.size + 1) (W := w11) hne
        have ha : accC 19 s7 = s7 := by unfold accC; rw [if_neg hne]
        rw [ha] at Q11
        have h8' := H8.out
        have e8 : s7 = o8.map (·.1) := by rw [← h8']; exact hno.1
        have hI11 : ∀ z, o8 = some z → Is w11 (w.heap.size + 1) z.2 [] := fun z hz => hno.2 z.1 z.2 (by rw [h8']; exact hz)
        rw [e8] at Q11
        clear hB hno ha h8' hne
        go_wp2_with fail
        go_ret
        have hE := fun r t ht => E2.out r t ht
        refine ⟨w.heap.size, rfl, ?_, Q11.gr, fun r t ht => ?_⟩
        · exact Q11.rd
        obtain ⟨x, s, y, g, z, hx, hy, hy5, hy7, hy8, rfl⟩ := hE r t ht
        obtain ⟨hn4, hx4⟩ := HI4.out s.1 s.2 hy
        subst hn4 hx4
        have A : Stays (w.heap.size + 1) w2 w11 := ((S24.trans S6 (by omega)).trans S10 (by omega)).trans S11 (by omega)
        have B4 : Stays (w.heap.size + 1) w4 w11 := ((S44.trans S6 (by omega)).trans S10 (by omega)).trans S11 (by omega)
        have C6 : Stays (w.heap.size + 1) W6 w11 := S10.trans S11 (by omega)
        have r1 := A.row (row_low (by omega : w.heap.size + 1 ≤ w1.heap.size) hrow2)
        have r2 := B4.row (row_low (by omega : w.heap.size + 1 ≤ w3.heap.size) hrow4)
        have r3 := S11.row hrow10
        have t1 := ((HI2.out x.1 x.2 hx).low (by omega : w.heap.size + 1 ≤ w1.heap.size)).kept A
        have t2 := (hI6 y hy5).kept C6
        have t3 := (hI10 g hy7).kept S11
        exact .query (Nat.le_refl _) Q11.q (row_low (Nat.le_succ _) r1) (row_low (Nat.le_succ _) r2) (row_low (Nat.le_succ _) r3) (t1.low (Nat.le_succ _)) (t2.low (Nat.le_succ _)) (t3.low (Nat.le_succ _)) ((hI11 z hy8).low (Nat.le_succ _))
      · have hye : hkc s7 = 19 := by simpa using hB
        have ha : accC 19 s7 = tailc s7 := by unfold accC; rw [if_pos hye]
        rw [ha] at Q11
        have hy8 := opt_yes (f := f + 1) (by decide) hye
        rw [H8.out] at hy8
        have hroom8 : Room (f + 1) 3 (tailc s7) := fun l hl => by
          obtain ⟨l0, e0, hl0⟩ := tail_le (by decide) hye hl
          have := HL7.out l0 e0
          omega
        have hcond := hC _ hroom8 w11 Q11.rd (hg.grown Q11.gr h8)
        rw [← hy8] at hcond
        clear hB ha hye hroom8 hy8
        go_wp2_with fail
        refine hcond.mono ?_
        rintro e w12 ⟨x12, rfl, hR12, hg12, hI12⟩
        have Q12 := Q11.call hblt hR12 hg12
        have q124 := Q12.cell (i := 4) rfl
        have q12f := Q12.free 4
        have Q12' := Q12.set 4 (.pointer (some ⟨x12, 0, none⟩))
        have z12 := hg12.size
        have hq11 : w.heap.size < w11.heap.size := (Array.getElem?_eq_some_iff.1 Q11.q).1
        have Sset := stays_set w12 (.pointer (some ⟨x12, 0, none⟩)) (o := 4) (show w.heap.size < w.heap.size + 1 by omega)
        have S12 := ((S11.trans (stays_grown hg12 (by omega)) z11).trans Sset (by omega))
        clear hcond
        go_wp2_with fail
        go_ret
        have hE := fun r t ht => E2.out r t ht
        refine ⟨w.heap.size, rfl, ?_, Q12'.gr, fun r t ht => ?_⟩
        · exact Q12'.rd
        obtain ⟨x, s, y, g, z, hx, hy, hy5, hy7, hy8, rfl⟩ := hE r t ht
        obtain ⟨hn4, hx4⟩ := HI4.out s.1 s.2 hy
        subst hn4 hx4
        have A : Stays (w.heap.size + 1) w2 (w12.setCell ⟨w.heap.size, 4, none⟩ (.pointer (some ⟨x12, 0, none⟩))) := ((S24.trans S6 (by omega)).trans S10 (by omega)).trans S12 (by omega)
        have B4 : Stays (w.heap.size + 1) w4 (w12.setCell ⟨w.heap.size, 4, none⟩ (.pointer (some ⟨x12, 0, none⟩))) := ((S44.trans S6 (by omega)).trans S10 (by omega)).trans S12 (by omega)
        have C6 : Stays (w.heap.size + 1) W6 (w12.setCell ⟨w.heap.size, 4, none⟩ (.pointer (some ⟨x12, 0, none⟩))) := S10.trans S12 (by omega)
        have r1 := A.row (row_low (by omega : w.heap.size + 1 ≤ w1.heap.size) hrow2)
        have r2 := B4.row (row_low (by omega : w.heap.size + 1 ≤ w3.heap.size) hrow4)
        have r3 := S12.row hrow10
        have t1 := ((HI2.out x.1 x.2 hx).low (by omega : w.heap.size + 1 ≤ w1.heap.size)).kept A
        have t2 := (hI6 y hy5).kept C6
        have t3 := (hI10 g hy7).kept S12
        exact .query (ev := .slice ea es.length ecap) (sv := .slice sa s.2.length scap) (gv := gv) (ws := ws) (hs := [.pointer (some ⟨x12, 0, none⟩)]) (Nat.le_refl _) Q12'.q (row_low (Nat.le_succ _) r1) (row_low (Nat.le_succ _) r2) (row_low (Nat.le_succ _) r3) (t1.low (Nat.le_succ _)) (t2.low (Nat.le_succ _)) (t3.low (Nat.le_succ _)) ((((hI12 z.1 z.2 hy8).low (by omega : w.heap.size + 1 ≤ w11.heap.size)).kept Sset).low (Nat.le_succ _))
end Go.Proofs.YtbkeflgafjnefaaGreatDoor
namespace Go.Proofs.YtbkeflgafjnefaaGreatDoor
open Go.RowKit
open Trib
theorem cond_nothing (P : List ByteArray → Option (List ByteArray × Tr)) (b : Nat) (v : Value) (ts : List ByteArray) (hs : Sm ts) (h8 : 8 ≤ b) : PartAt 266 b v ts P none := fun w h hg =>
  pcond_cmp b v ts none 0 rfl none w h hs (fun W hW he => by
    have hGW : Glob W := hg.kept (by rw [he]; exact Nat.le_refl _) (fun k _ => by rw [he])
    exact comparison_op P b v ts none W hW hGW hs h8 (expr_nothing P b v ts hs) (by show hkc none ≠ 23; rw [show hkc none = 0 from rfl]; decide) (by
      have e : tailc (expC [8, 9, 10] (((none : Option (List ByteArray)).bind P).map (·.1))) = none := by
        show tailc (expC [8, 9, 10] none) = none
        rw [expC_none]; rfl
      rw [e]; exact expr_nothing P b v ts hs)) (by decide) (by decide) (by decide)
theorem query_nothing (P : List ByteArray → Option (List ByteArray × Tr)) (b : Nat) (v : Value) (ts : List ByteArray) (hs : Sm ts) (h8 : 8 ≤ b) : PartAt 189 b v ts P none := fun w h hg =>
  query_part 0 b v ts none w h hg hs h8 (fun r e => by cases e) (fun c' hr => by
    cases c' with
    | none => exact cond_nothing _ b v ts hs h8
    | some l => have := hr l rfl; omega)
theorem cq_all : ∀ f, (∀ (b : Nat) (v : Value) (ts : List ByteArray), Sm ts → 8 ≤ b → ∀ c, Room f 3 c → PartAt 266 b v ts (CT f 1) c) ∧ (∀ (b : Nat) (v : Value) (ts : List ByteArray), Sm ts → 8 ≤ b → ∀ c, Room f 4 c → PartAt 189 b v ts (CT f 2) c) := by
  intro f
  induction f with
  | zero =>
    refine ⟨fun b v ts hs h8 c hr => ?_, fun b v ts hs h8 c hr => ?_⟩
    · cases c with
      | none => exact cond_nothing _ b v ts hs h8
      | some l => have := hr l rfl; omega
    · cases c with
      | none => exact query_nothing _ b v ts hs h8
      | some l => have := hr l rfl; omega
  | succ f ih =>
    refine ⟨fun b v ts hs h8 c hr => ?_, fun b v ts hs h8 c hr => ?_⟩
    · cases c with
      | none => exact cond_nothing _ b v ts hs h8
      | some l =>
        intro w h hg
        have hr' := hr l rfl
        rw [Option.bind_some]
        by_cases h22 : hk l = 22
        · rw [ct_not h22]
          obtain ⟨t, r, rfl, _⟩ := hk_some h22 (by decide)
          exact pcond_not (CT f 1) b v ts (t :: r) w h hg hs h8 h22 (ih.1 b v ts hs h8 _ (fun r' e => by obtain rfl := Option.some.inj e; rw [List.length_cons] at hr'; show 8 * r.length + 3 ≤ f; omega))
        by_cases h25 : hk l = 25
        · rw [ct_ex h25]
          refine cond_ex b v ts (some l) 25 h25 _ w h hs (fun W hW he => ?_) rfl
          have hGW : Glob W := hg.kept (by rw [he]; exact Nat.le_refl _) (fun k _ => by rw [he])
          obtain ⟨t, r, rfl, _⟩ := hk_some h25 (by decide)
          exact exists_part (CT f 2) b v ts (t :: r) W hW hGW hs h8 h25 (ih.2 b v ts hs h8 _ (room_tkR (by rw [List.length_cons] at hr'; show 8 * r.length + 4 ≤ f + 8; omega)))
        by_cases h4 : hk l = 4 ∧ opensL 0 (l.map kd) = true
        · rw [ct_join h4.1 h4.2]
          obtain ⟨h4, ho⟩ := h4
          obtain ⟨t, r, rfl, hkt⟩ := hk_some h4 (by decide)
          have hl1 : 8 * r.length + 3 ≤ f := by rw [List.length_cons] at hr'; omega
          have hc1 : tkR 4 (some (t :: r)) = some r := by rw [tkR_some, takeT, if_pos hkt]; rfl
          refine cond_join (CT f 1) b v ts (t :: r) w h hs hg h8 h4 ho ?_ ?_
          · rw [hc1]
            exact ih.1 b v ts hs h8 _ (fun r' e => by obtain rfl := Option.some.inj e; exact hl1)
          · refine ih.1 b v ts hs h8 _ (fun r' e => ?_)
            rw [hc1, Option.bind_some, (exp_tail [20, 21] (by decide) _).1] at e
            cases hx : CT f 1 r with
            | none => rw [hx] at e; cases e
            | some x =>
              rw [hx] at e
              have hle := CT_le hx
              simp only [Option.map_some, Option.bind_some] at e
              split at e
              · obtain rfl := Option.some.inj e
                rw [List.length_tail]; omega
              · cases e
        · rw [ct_cmp h22 h25 h4]
          have hE := pexpr_all f b v ts hs h8
          have hcmp : ∀ W : World, Rd W b v ts (some l) → Glob W → Calls Tryz.prog 357 #[.pointer (some ⟨b, 0, none⟩)] W (PartPost W b v ts (cmpT (CT f 0) l)) := by
            intro W hW hGW
            have hp : PartAt 263 b v ts (CT f 0) (some l) := hE _ (fun r e => by obtain rfl := Option.some.inj e; omega)
            by_cases h23 : hkc (((some l).bind (CT f 0)).map (·.1)) = 23
            · exact comparison_is (CT f 0) b v ts (some l) W hW hGW hs hp h23
            · refine comparison_op (CT f 0) b v ts (some l) W hW hGW hs h8 hp h23 (hE _ (fun r e => ?_))
              rw [Option.bind_some, (exp_tail [8, 9, 10] (by decide) _).1] at e
              cases hx : CT f 0 l with
              | none => rw [hx] at e; cases e
              | some x =>
                rw [hx] at e
                have hle := CT_le hx
                simp only [Option.map_some, Option.bind_some] at e
                split at e
                · obtain rfl := Option.some.inj e
                  rw [List.length_tail]; omega
                · cases e
          by_cases h4' : hk l = 4
          · have hno : opensL 0 (l.map kd) = false := by
              cases e : opensL 0 (l.map kd)
              · rfl
              · exact absurd ⟨h4', e⟩ h4
            exact cond_open b v ts l _ w h hs h4' hno (fun W hW hB => hcmp W hW (hg.below hB hg.big))
          · exact pcond_cmp b v ts (some l) (hk l) rfl _ w h hs (fun W hW he => hcmp W hW (hg.kept (by rw [he]; exact Nat.le_refl _) (fun k _ => by rw [he]))) h22 h25 h4'
    · cases c with
      | none => exact query_nothing _ b v ts hs h8
      | some l =>
        have hr' := hr l rfl
        obtain ⟨f, rfl⟩ : ∃ g, f = g + 1 := ⟨f - 1, by omega⟩
        intro w h hg
        exact query_part f b v ts (some l) w h hg hs h8 hr (ih.1 b v ts hs h8)
end Go.Proofs.YtbkeflgafjnefaaGreatDoor
namespace Go.Proofs.YtbkeflgafjnefaaGreatDoor
open Go.RowKit
open Trib
/-- A query, with room for all that is left. -/
def qA (l : List ByteArray) : Option (List ByteArray × Tr) := CT (8 * l.length + 8) 2 l
theorem query_at (b : Nat) (v : Value) (ts : List ByteArray) (hs : Sm ts) (h8 : 8 ≤ b) (c : Option (List ByteArray)) : PartAt 189 b v ts qA c := by
  cases c with
  | none => exact query_nothing _ b v ts hs h8
  | some l =>
    intro w h hg
    have hx := (cq_all (8 * l.length + 8)).2 b v ts hs h8 (some l) (fun r e => by obtain rfl := Option.some.inj e; omega) w h hg
    rw [Option.bind_some] at hx ⊢
    rw [qA]
    exact hx
/-- A whole text: its form (0 a query, 1 within, 2 ever), the number behind within, the query. -/
def formT (l : List ByteArray) : Nat := if hk l = 31 then 1 else if hk l = 32 then 2 else 0
def stT (l : List ByteArray) : Option (List ByteArray × Tr) := if hk l = 31 then (takeT 2 l.tail).bind fun a => qA a.2 else if hk l = 32 then qA l.tail else qA l
theorem numField (k : Int) (n : Int) (s : ByteArray) (w : World) : Sem.run Tryz.prog (Instr.field 184 (Value.agg #[.int .i64 k, .int .i64 n, .string s]) 1) w = .ok (.int .i64 n) w := by kernel_rfl
theorem tkT_head (k : Nat) (hk : k ≠ 0) (c : Option (List ByteArray)) : tkT k c = headTok (expC [k] c) := (exp_one k hk c).1.symm
set_option maxHeartbeats 8000000 in
set_option maxRecDepth 100000 in
theorem number_part (b : Nat) (v : Value) (ts : List ByteArray) (c : Option (List ByteArray)) (w : World) (h : Rd w b v ts c) (hs : Sm ts) :
    Calls Tryz.prog 188 #[.pointer (some ⟨b, 0, none⟩)] w fun e w' => e = .returned (.int .i64 (valRes (tkT 2 c).2.data.toList).1.num) ∧ Rd w' b v ts (tkR 2 c) ∧ w.grownBy w' (some b) := by
  have hts := headTok_small h hs [2]
  rw [← tkT_head 2 (by decide)] at hts
  generalize hT : tkT 2 c = T at *
  generalize hc1 : tkR 2 c = c1
  obtain ⟨Ta, Tb⟩ := T
  simp only at hts ⊢
  generalize hR : valRes Tb.data.toList = R
  obtain ⟨R1, R2⟩ := R
  have HR := hide hR
  clear hR
  go_enter Tryz.func188, Tryz.ntmps188
  go_wp2_with fail
  refine (expectE 2 2 rfl (by decide) b v ts c c1 _ hT hc1 w _ (by simp) h hs.1).mono ?_
  rintro e w1 ⟨rfl, hR1, hg1⟩
  clear hT hc1
  have hfld := tokField1 Ta Tb w1
  go_wp2_with (go_at_call 180; refine (valRead_any Tb _ (by omega)).mono ?_; rintro e w2 ⟨rfl, hb2⟩; rw [HR.out]; simp only [vlV])
  have hg2 : w1.grownBy w2 (some b) := ⟨hb2.os, hb2.tape, hb2.output, hb2.size, fun k hk _ => hb2.block k hk⟩
  go_ret
  exact ⟨rfl, (hR1.below hb2).alloc _, (hg1.trans hg2).trans (World.grownBy_alloc w2 _ _)⟩
/-- What reading a whole text leaves. -/
def StPost (w : World) (b : Nat) (v : Value) (ts : List ByteArray) (fm : Nat) (o : Option (List ByteArray × Tr)) (e : Ending) (w' : World) : Prop :=
  ∃ (sp : Int) (x : Nat), e = .returned (.agg #[.int .i64 (fm : Int), .int .i64 sp, .pointer (some ⟨x, 0, none⟩)]) ∧ Rd w' b v ts (o.map (·.1)) ∧ w.grownBy w' (some b) ∧ ∀ r t, o = some (r, t) → Is w' w.heap.size t [.pointer (some ⟨x, 0, none⟩)]
/-- Two blocks of a call's own, one behind the other. -/
structure SS (w : World) (b : Nat) (v : Value) (ts : List ByteArray) (W : World) (s : Option (List ByteArray)) (cs : Array Value) : Prop where
  rd : Rd W b v ts s
  gr : w.grownBy W (some b)
  r : W.heap[w.heap.size]? = some (.cells #[.int .i64 0, .int .i64 0, .pointer none] 101 (0, 0))
  q : W.heap[w.heap.size + 1]? = some (.cells cs 101 (0, 0))
theorem SS.call {w : World} {b : Nat} {v : Value} {ts : List ByteArray} {W W' : World} {s s' : Option (List ByteArray)} {cs : Array Value} (h : SS w b v ts W s cs) (hb : b < w.heap.size) (hr : Rd W' b v ts s') (hg : W.grownBy W' (some b)) : SS w b v ts W' s' cs :=
  ⟨hr, h.gr.trans hg, kept_ne h.r hg (by omega), kept_ne h.q hg (by omega)⟩
theorem SS.set {w : World} {b : Nat} {v : Value} {ts : List ByteArray} {W : World} {s : Option (List ByteArray)} {cs : Array Value} (h : SS w b v ts W s cs) (i : Nat) (x : Value) : SS w b v ts (W.setCell ⟨w.heap.size + 1, i, none⟩ x) s (cs.setIfInBounds i x) :=
  ⟨h.rd.set x h.q (by decide) (by decide), grown_set_new h.gr (Nat.le_succ _) i x, (Below.heap_setCell _ _ _ _ (by show w.heap.size ≠ w.heap.size + 1; omega)).trans h.r, heap_setCell h.q x⟩
theorem SS.cell {w : World} {b : Nat} {v : Value} {ts : List ByteArray} {W : World} {s : Option (List ByteArray)} {cs : Array Value} (h : SS w b v ts W s cs) {i : Nat} {x : Value} (hx : cs[i]? = some x) : W.cell? ⟨w.heap.size + 1, i, none⟩ = some x := blk_cell h.q hx
theorem SS.free {w : World} {b : Nat} {v : Value} {ts : List ByteArray} {W : World} {s : Option (List ByteArray)} {cs : Array Value} (h : SS w b v ts W s cs) (i : Nat) : W.frozen? ⟨w.heap.size + 1, i, none⟩ = false := blk_free h.q
theorem accC_no {k : Nat} {c : Option (List ByteArray)} (h : hkc c ≠ k) : accC k c = c := by unfold accC; rw [if_neg h]
theorem accC_yes {k : Nat} {c : Option (List ByteArray)} (h : hkc c = k) : accC k c = tailc c := by unfold accC; rw [if_pos h]
theorem st_within {c : Option (List ByteArray)} (h : hkc c = 31) : (tkR 2 (tailc c)).bind qA = c.bind stT := by
  obtain ⟨l, rfl, hl⟩ := hkc_some h (by decide)
  obtain ⟨t0, r0, rfl, _⟩ := hk_some hl (by decide)
  rw [Option.bind_some]
  unfold stT
  rw [if_pos hl]
  show (tkR 2 (some r0)).bind qA = _
  rw [tkR_some, List.tail_cons]
  cases takeT 2 r0 with
  | none => rfl
  | some a => rfl
theorem st_ever {c : Option (List ByteArray)} (h : hkc c = 32) : (tailc c).bind qA = c.bind stT := by
  obtain ⟨l, rfl, hl⟩ := hkc_some h (by decide)
  obtain ⟨t0, r0, rfl, _⟩ := hk_some hl (by decide)
  rw [Option.bind_some]
  unfold stT
  rw [if_neg (by omega), if_pos hl]
  rfl
theorem st_plain {c : Option (List ByteArray)} (h : hkc c ≠ 31) (h2 : hkc c ≠ 32) : c.bind qA = c.bind stT := by
  cases c with
  | none => rfl
  | some l =>
    rw [Option.bind_some, Option.bind_some]
    unfold stT
    rw [if_neg (by exact h), if_neg (by exact h2)]
set_option maxHeartbeats 8000000 in
set_option maxRecDepth 100000 in
theorem statement_plain (b : Nat) (v : Value) (ts : List ByteArray) (c : Option (List ByteArray)) (w : World) (h : Rd w b v ts c) (hg : Glob w) (hs : Sm ts) (h8 : 8 ≤ b) (h31 : hkc c ≠ 31) (h32 : hkc c ≠ 32) :
    Calls Tryz.prog 131 #[.pointer (some ⟨b, 0, none⟩)] w (StPost w b v ts 0 (c.bind stT)) := by
  have hblt := h.lt
  have hown := h.own
  have S0 : SS w b v ts ((w.alloc (.cells #[.int .i64 0, .int .i64 0, .pointer none] 101)).alloc (.cells #[.int .i64 0, .int .i64 0, .pointer none] 101)) c #[.int .i64 0, .int .i64 0, .pointer none] :=
    ⟨(h.alloc _).alloc _, (World.grownBy_alloc w _ _).trans (World.grownBy_alloc _ _ _), blk_alloc (heap_alloc_new w _) _, new_at _ _ (by simp) _⟩
  rw [← st_plain h31 h32]
  go_enter Tryz.func131, Tryz.ntmps131
  go_wp2_with fail
  refine (accept_any b v ts c 31 _ S0.rd hs.1).mono ?_
  rw [accC_no h31, decide_eq_false h31]
  rintro e w1 ⟨rfl, hR1, hg1⟩
  have S1 := S0.call hblt hR1 hg1
  go_wp2_with fail
  refine (accept_any b v ts c 32 w1 S1.rd hs.1).mono ?_
  rw [accC_no h32, decide_eq_false h32]
  rintro e w2 ⟨rfl, hR2, hg2⟩
  have S2 := S1.call hblt hR2 hg2
  clear h31 h32
  go_wp2_with fail
  refine (query_at b v ts hs h8 c w2 S2.rd (hg.grown S2.gr h8)).mono ?_
  rintro e wq ⟨x, rfl, hRq, hgq, hIq⟩
  have Sq := S2.call hblt hRq hgq
  have q2 := Sq.cell (i := 2) rfl
  have f2 := Sq.free 2
  have Sq' := Sq.set 2 (.pointer (some ⟨x, 0, none⟩))
  have zq := hgq.size
  have zz : w.heap.size + 2 ≤ w2.heap.size := by have := (Array.getElem?_eq_some_iff.1 S2.q).1; omega
  have r0 := blk_cell Sq'.r (i := 0) rfl
  have r1 := blk_cell Sq'.r (i := 1) rfl
  have r2 := blk_cell Sq'.r (i := 2) rfl
  have g0 := blk_free (i := 0) Sq'.r
  have g1 := blk_free (i := 1) Sq'.r
  have g2 := blk_free (i := 2) Sq'.r
  have k0 := Sq'.cell (i := 0) rfl
  have k1 := Sq'.cell (i := 1) rfl
  have k2 := Sq'.cell (i := 2) rfl
  go_wp2_with fail
  refine bodyPost_ret (v := .agg #[.int .i64 0, .int .i64 0, .pointer (some ⟨x, 0, none⟩)]) (by simp [results, Tryz.results131, go_sem, *]) rfl ⟨0, x, rfl, ?_, ?_, fun r t ht => ?_⟩
  · exact ((Sq'.rd.setNew hown hblt (Nat.le_refl _) _).setNew hown hblt (Nat.le_refl _) _).setNew hown hblt (Nat.le_refl _) _
  · exact grown_set_new (grown_set_new (grown_set_new Sq'.gr (Nat.le_refl _) _ _) (Nat.le_refl _) _ _) (Nat.le_refl _) _ _
  · have I1 := (hIq r t ht).low (by omega : w.heap.size + 2 ≤ w2.heap.size)
    exact ((((I1.kept (stays_set wq _ (show w.heap.size + 1 < w.heap.size + 2 by omega))).kept (stays_set _ _ (show w.heap.size < w.heap.size + 2 by omega))).kept (stays_set _ _ (show w.heap.size < w.heap.size + 2 by omega))).kept (stays_set _ _ (show w.heap.size < w.heap.size + 2 by omega))).low (by omega)
set_option maxHeartbeats 8000000 in
set_option maxRecDepth 100000 in
theorem statement_ever (b : Nat) (v : Value) (ts : List ByteArray) (c : Option (List ByteArray)) (w : World) (h : Rd w b v ts c) (hg : Glob w) (hs : Sm ts) (h8 : 8 ≤ b) (h32 : hkc c = 32) :
    Calls Tryz.prog 131 #[.pointer (some ⟨b, 0, none⟩)] w (StPost w b v ts 2 (c.bind stT)) := by
  have hblt := h.lt
  have hown := h.own
  have S0 : SS w b v ts ((w.alloc (.cells #[.int .i64 0, .int .i64 0, .pointer none] 101)).alloc (.cells #[.int .i64 0, .int .i64 0, .pointer none] 101)) c #[.int .i64 0, .int .i64 0, .pointer none] :=
    ⟨(h.alloc _).alloc _, (World.grownBy_alloc w _ _).trans (World.grownBy_alloc _ _ _), blk_alloc (heap_alloc_new w _) _, new_at _ _ (by simp) _⟩
  rw [← st_ever h32]
  go_enter Tryz.func131, Tryz.ntmps131
  go_wp2_with fail
  have h31 : hkc c ≠ 31 := by omega
  refine (accept_any b v ts c 31 _ S0.rd hs.1).mono ?_
  rw [accC_no h31, decide_eq_false h31]
  rintro e w1 ⟨rfl, hR1, hg1⟩
  have S1 := S0.call hblt hR1 hg1
  go_wp2_with fail
  refine (accept_any b v ts c 32 w1 S1.rd hs.1).mono ?_
  rw [accC_yes h32, decide_eq_true h32]
  rintro e w2 ⟨rfl, hR2, hg2⟩
  have S2 := S1.call hblt hR2 hg2
  have q0 := S2.cell (i := 0) rfl
  have f0 := S2.free 0
  have S2' := S2.set 0 (.int .i64 2)
  clear h31 h32
  go_wp2_with fail
  refine (query_at b v ts hs h8 (tailc c) _ S2'.rd (hg.grown S2'.gr h8)).mono ?_
  rintro e wq ⟨x, rfl, hRq, hgq, hIq⟩
  have Sq := S2'.call hblt hRq hgq
  have q2 := Sq.cell (i := 2) rfl
  have f2 := Sq.free 2
  have Sq' := Sq.set 2 (.pointer (some ⟨x, 0, none⟩))
  have zq := hgq.size
  have zz : w.heap.size + 2 ≤ (w2.setCell ⟨w.heap.size + 1, 0, none⟩ (.int .i64 2)).heap.size := by have := (Array.getElem?_eq_some_iff.1 S2'.q).1; omega
  have r0 := blk_cell Sq'.r (i := 0) rfl
  have r1 := blk_cell Sq'.r (i := 1) rfl
  have r2 := blk_cell Sq'.r (i := 2) rfl
  have g0 := blk_free (i := 0) Sq'.r
  have g1 := blk_free (i := 1) Sq'.r
  have g2 := blk_free (i := 2) Sq'.r
  have k0 := Sq'.cell (i := 0) rfl
  have k1 := Sq'.cell (i := 1) rfl
  have k2 := Sq'.cell (i := 2) rfl
  go_wp2_with fail
  refine bodyPost_ret (v := .agg #[.int .i64 2, .int .i64 0, .pointer (some ⟨x, 0, none⟩)]) (by simp [results, Tryz.results131, go_sem, *]) rfl ⟨0, x, rfl, ?_, ?_, fun r t ht => ?_⟩
  · exact ((Sq'.rd.setNew hown hblt (Nat.le_refl _) _).setNew hown hblt (Nat.le_refl _) _).setNew hown hblt (Nat.le_refl _) _
  · exact grown_set_new (grown_set_new (grown_set_new Sq'.gr (Nat.le_refl _) _ _) (Nat.le_refl _) _ _) (Nat.le_refl _) _ _
  · have I1 := (hIq r t ht).low (by omega : w.heap.size + 2 ≤ (w2.setCell ⟨w.heap.size + 1, 0, none⟩ (.int .i64 2)).heap.size)
    exact ((((I1.kept (stays_set wq _ (show w.heap.size + 1 < w.heap.size + 2 by omega))).kept (stays_set _ _ (show w.heap.size < w.heap.size + 2 by omega))).kept (stays_set _ _ (show w.heap.size < w.heap.size + 2 by omega))).kept (stays_set _ _ (show w.heap.size < w.heap.size + 2 by omega))).low (by omega)
set_option maxHeartbeats 8000000 in
set_option maxRecDepth 100000 in
theorem statement_within (b : Nat) (v : Value) (ts : List ByteArray) (c : Option (List ByteArray)) (w : World) (h : Rd w b v ts c) (hg : Glob w) (hs : Sm ts) (h8 : 8 ≤ b) (h31 : hkc c = 31) :
    Calls Tryz.prog 131 #[.pointer (some ⟨b, 0, none⟩)] w (StPost w b v ts 1 (c.bind stT)) := by
  have hblt := h.lt
  have hown := h.own
  have S0 : SS w b v ts ((w.alloc (.cells #[.int .i64 0, .int .i64 0, .pointer none] 101)).alloc (.cells #[.int .i64 0, .int .i64 0, .pointer none] 101)) c #[.int .i64 0, .int .i64 0, .pointer none] :=
    ⟨(h.alloc _).alloc _, (World.grownBy_alloc w _ _).trans (World.grownBy_alloc _ _ _), blk_alloc (heap_alloc_new w _) _, new_at _ _ (by simp) _⟩
  rw [← st_within h31]
  go_enter Tryz.func131, Tryz.ntmps131
  go_wp2_with fail
  refine (accept_any b v ts c 31 _ S0.rd hs.1).mono ?_
  rw [accC_yes h31, decide_eq_true h31]
  rintro e w1 ⟨rfl, hR1, hg1⟩
  have S1 := S0.call hblt hR1 hg1
  have q0 := S1.cell (i := 0) rfl
  have f0 := S1.free 0
  have S1' := S1.set 0 (.int .i64 1)
  clear h31
  go_wp2_with fail
  refine (number_part b v ts (tailc c) _ S1'.rd hs).mono ?_
  generalize (valRes (tkT 2 (tailc c)).2.data.toList).1.num = sp
  rintro e w2 ⟨rfl, hR2, hg2⟩
  have S2 := S1'.call hblt hR2 hg2
  have q1 := S2.cell (i := 1) rfl
  have f1 := S2.free 1
  have S2' := S2.set 1 (.int .i64 sp)
  go_wp2_with fail
  refine (query_at b v ts hs h8 _ _ S2'.rd (hg.grown S2'.gr h8)).mono ?_
  rintro e wq ⟨x, rfl, hRq, hgq, hIq⟩
  have Sq := S2'.call hblt hRq hgq
  have q2 := Sq.cell (i := 2) rfl
  have f2 := Sq.free 2
  have Sq' := Sq.set 2 (.pointer (some ⟨x, 0, none⟩))
  have zq := hgq.size
  have zz : w.heap.size + 2 ≤ (w2.setCell ⟨w.heap.size + 1, 1, none⟩ (.int .i64 sp)).heap.size := by have := (Array.getElem?_eq_some_iff.1 S2'.q).1; omega
  have r0 := blk_cell Sq'.r (i := 0) rfl
  have r1 := blk_cell Sq'.r (i := 1) rfl
  have r2 := blk_cell Sq'.r (i := 2) rfl
  have g0 := blk_free (i := 0) Sq'.r
  have g1 := blk_free (i := 1) Sq'.r
  have g2 := blk_free (i := 2) Sq'.r
  have k0 := Sq'.cell (i := 0) rfl
  have k1 := Sq'.cell (i := 1) rfl
  have k2 := Sq'.cell (i := 2) rfl
  go_wp2_with fail
  refine bodyPost_ret (v := .agg #[.int .i64 1, .int .i64 sp, .pointer (some ⟨x, 0, none⟩)]) (by simp [results, Tryz.results131, go_sem, *]) rfl ⟨sp, x, rfl, ?_, ?_, fun r t ht => ?_⟩
  · exact ((Sq'.rd.setNew hown hblt (Nat.le_refl _) _).setNew hown hblt (Nat.le_refl _) _).setNew hown hblt (Nat.le_refl _) _
  · exact grown_set_new (grown_set_new (grown_set_new Sq'.gr (Nat.le_refl _) _ _) (Nat.le_refl _) _ _) (Nat.le_refl _) _ _
  · have I1 := (hIq r t ht).low (by omega : w.heap.size + 2 ≤ (w2.setCell ⟨w.heap.size + 1, 1, none⟩ (.int .i64 sp)).heap.size)
    exact ((((I1.kept (stays_set wq _ (show w.heap.size + 1 < w.heap.size + 2 by omega))).kept (stays_set _ _ (show w.heap.size < w.heap.size + 2 by omega))).kept (stays_set _ _ (show w.heap.size < w.heap.size + 2 by omega))).kept (stays_set _ _ (show w.heap.size < w.heap.size + 2 by omega))).low (by omega)
end Go.Proofs.YtbkeflgafjnefaaGreatDoor
namespace Go.Proofs.YtbkeflgafjnefaaGreatDoor
open Go.RowKit
open Trib
theorem statement_any (b : Nat) (v : Value) (ts : List ByteArray) (l : List ByteArray) (w : World) (h : Rd w b v ts (some l)) (hg : Glob w) (hs : Sm ts) (h8 : 8 ≤ b) :
    Calls Tryz.prog 131 #[.pointer (some ⟨b, 0, none⟩)] w (StPost w b v ts (formT l) (stT l)) := by
  by_cases h31 : hk l = 31
  · have e : formT l = 1 := by unfold formT; rw [if_pos h31]
    rw [e]
    exact statement_within b v ts (some l) w h hg hs h8 h31
  · by_cases h32 : hk l = 32
    · have e : formT l = 2 := by unfold formT; rw [if_neg h31, if_pos h32]
      rw [e]
      exact statement_ever b v ts (some l) w h hg hs h8 h32
    · have e : formT l = 0 := by unfold formT; rw [if_neg h31, if_neg h32]
      rw [e]
      exact statement_plain b v ts (some l) w h hg hs h8 h31 h32
/-- What the program's Read answers. -/
def PReadPost (ts : List ByteArray) (w : World) (e : Ending) (w' : World) : Prop :=
  (∃ (t : Tr) (sp : Int) (x : Nat), stT ts = some ([], t) ∧ e = .returned (.tuple #[.agg #[.int .i64 (formT ts : Int), .int .i64 sp, .pointer (some ⟨x, 0, none⟩)], .bool true]) ∧ Is w' w.heap.size t [.pointer (some ⟨x, 0, none⟩)] ∧ Below w.heap.size w w') ∨
  ((∀ t, stT ts ≠ some ([], t)) ∧ e = .returned (.tuple #[.agg #[.int .i64 0, .int .i64 0, .pointer none], .bool false]) ∧ Below w.heap.size w w')
theorem Rd.flag {w : World} {b : Nat} {v : Value} {ts : List ByteArray} {s : Option (List ByteArray)} (h : Rd w b v ts s) : w.cell? ⟨b, 2, none⟩ = some (.bool s.isNone) := by
  obtain ⟨p, bad, h1, _, _, _, rfl⟩ := h
  have := h1.cells.2.2
  rw [this]
  cases bad <;> rfl
theorem Rd.sub {w : World} {b : Nat} {v : Value} {ts l : List ByteArray} (h : Rd w b v ts (some l)) : ∀ t ∈ l, t ∈ ts := by
  obtain ⟨p, bad, _, _, _, _, hc⟩ := h
  cases bad
  · obtain rfl := Option.some.inj hc
    exact fun t ht => List.mem_of_mem_drop ht
  · cases hc
/-- The end must come. -/
theorem end_chain {w : World} {b : Nat} {v : Value} {ts : List ByteArray} {o : Option (List ByteArray × Tr)} (h : Rd w b v ts (o.map (·.1))) (hk : Kinded ts) :
    (∃ t, o = some ([], t) ∧ tailc (expC [0] (o.map (·.1))) = some []) ∨ ((∀ t, o ≠ some ([], t)) ∧ tailc (expC [0] (o.map (·.1))) = none) := by
  cases o with
  | none => exact Or.inr ⟨(fun t e => by cases e), by show tailc (expC [0] none) = none; rw [expC_none]; rfl⟩
  | some x =>
    obtain ⟨r, t⟩ := x
    cases r with
    | nil => exact Or.inl ⟨t, rfl, rfl⟩
    | cons a l =>
      refine Or.inr ⟨(fun t' e => by cases e), ?_⟩
      have hka : kd a ≠ 0 := hk a (Rd.sub (l := a :: l) h a List.mem_cons_self)
      show tailc (expC [0] (some (a :: l))) = none
      unfold expC
      rw [inK_one]
      have e : hkc (some (a :: l)) = kd a := rfl
      rw [e, decide_eq_false hka]
      rfl
set_option maxHeartbeats 8000000 in
set_option maxRecDepth 100000 in
theorem PRead_any (v : Value) (ts : List ByteArray) (w : World) (hrow : w.ownsRow 0 154 2 v ts.length (tokCells ts)) (hg : Glob w) (hs : Sm ts) (hk : Kinded ts) :
    Calls Tryz.prog 78 #[v] w (PReadPost ts w) := by
  have hbig := hg.big
  obtain ⟨va, vcap, rfl⟩ := row_shape hrow
  have hown : ∀ k, (Value.slice va ts.length vcap).ownBlock = some k → k < w.heap.size := fun k e => (hrow.lt k e).2
  go_enter Tryz.func78, Tryz.ntmps78
  go_wp2_with fail
  generalize hW0 : (w.alloc (.cells #[.int .i64 0, .int .i64 0, .pointer none] 101)).alloc (.cells #[.slice va ts.length vcap, .int .i64 0, .bool false] 243) = W0
  have z0 : W0.heap.size = w.heap.size + 2 := by rw [← hW0]; simp
  have hR0 : Rd W0 (w.heap.size + 1) (.slice va ts.length vcap) ts (some ts) := by
    rw [← hW0]
    exact ⟨0, false, new_at _ _ (by simp) _, (hrow.alloc _).alloc _, Nat.zero_le _, (fun e => Bool.noConfusion e), by simp⟩
  have hres0 : W0.heap[w.heap.size]? = some (.cells #[.int .i64 0, .int .i64 0, .pointer none] 101 (0, 0)) := by
    rw [← hW0]; exact blk_alloc (heap_alloc_new w _) _
  have hbel0 : Below w.heap.size w W0 := by
    rw [← hW0]; exact ((Below.refl _ _).alloc (Nat.le_refl _) _).alloc (by simp) _
  have hG0 : Glob W0 := hg.below hbel0 hbig
  have hst := statement_any (w.heap.size + 1) (.slice va ts.length vcap) ts ts W0 hR0 hG0 hs (by omega)
  clear hW0
  refine hst.mono ?_
  rintro e w1 ⟨sp, x, rfl, hR1, hg1, hI1⟩
  clear hst
  have z1 := hg1.size
  have hres1 := kept_ne hres0 hg1 (by omega)
  have hend := end_chain hR1 hk
  have hR1' := hR1.alloc (.cells #[.int .i64 (formT ts : Int), .int .i64 sp, .pointer (some ⟨x, 0, none⟩)] 101)
  go_wp2_with fail
  rcases hend with ⟨t, hot, hte⟩ | ⟨hno, hte⟩
  · refine (expectK [0] _ 1 rfl rfl (by decide) (w.heap.size + 1) _ ts _ _ _ rfl hte _ _ (by simp) hR1' hs.1).mono ?_
    rintro e w2 ⟨rfl, hR2, hg2⟩
    have z2 : w1.heap.size + 1 ≤ w2.heap.size := by have := hg2.size; simpa using this
    have hfl := hR2.flag
    have hloc := kept_ne (heap_alloc_new w1 (.cells #[.int .i64 (formT ts : Int), .int .i64 sp, .pointer (some ⟨x, 0, none⟩)] 101)) hg2 (by omega)
    have hres2 := kept_ne (blk_alloc hres1 (.cells #[.int .i64 (formT ts : Int), .int .i64 sp, .pointer (some ⟨x, 0, none⟩)] 101)) hg2 (by omega)
    have l0 := blk_cell hloc (i := 0) rfl
    have l1 := blk_cell hloc (i := 1) rfl
    have l2 := blk_cell hloc (i := 2) rfl
    have r0 := blk_cell hres2 (i := 0) rfl
    have r1 := blk_cell hres2 (i := 1) rfl
    have r2 := blk_cell hres2 (i := 2) rfl
    have g0 := blk_free (i := 0) hres2
    have g1 := blk_free (i := 1) hres2
    have g2 := blk_free (i := 2) hres2
    have hfl' : w2.cell? ⟨w.heap.size + 1, 2, none⟩ = some (.bool false) := hfl
    have hb2 : Below w.heap.size w w2 := hbel0.trans ((Below.grown (Below.refl _ W0) hg1 (by omega) (fun k e => by cases e; omega)).trans (Below.grown ((Below.refl _ w1).alloc (by omega) _) hg2 (by simp; omega) (fun k e => by cases e; omega)))
    have hI2 : Is w2 (w.heap.size + 2) t [.pointer (some ⟨x, 0, none⟩)] := (((hI1 [] t hot).low (by omega)).kept (stays_alloc _ _ _)).kept (stays_grown hg2 (by omega))
    have HOT := hide hot
    clear hfl hot hte
    go_wp2_with fail
    refine bodyPost_ret (v := .tuple #[.agg #[.int .i64 (formT ts : Int), .int .i64 sp, .pointer (some ⟨x, 0, none⟩)], .bool true]) (by simp [results, Tryz.results78, go_sem, *]) rfl (Or.inl ⟨t, sp, x, HOT.out, rfl, ?_, ?_⟩)
    · exact (((hI2.kept (stays_set _ _ (show w.heap.size < w.heap.size + 2 by omega))).kept (stays_set _ _ (show w.heap.size < w.heap.size + 2 by omega))).kept (stays_set _ _ (show w.heap.size < w.heap.size + 2 by omega))).low (by omega)
    · exact ((hb2.setCell (Nat.le_refl _) _).setCell (Nat.le_refl _) _).setCell (Nat.le_refl _) _
  · refine (expectK [0] _ 1 rfl rfl (by decide) (w.heap.size + 1) _ ts _ _ _ rfl hte _ _ (by simp) hR1' hs.1).mono ?_
    rintro e w2 ⟨rfl, hR2, hg2⟩
    have z2 : w1.heap.size + 1 ≤ w2.heap.size := by have := hg2.size; simpa using this
    have hfl := hR2.flag
    have hres2 := kept_ne (blk_alloc hres1 (.cells #[.int .i64 (formT ts : Int), .int .i64 sp, .pointer (some ⟨x, 0, none⟩)] 101)) hg2 (by omega)
    have r0 := blk_cell hres2 (i := 0) rfl
    have r1 := blk_cell hres2 (i := 1) rfl
    have r2 := blk_cell hres2 (i := 2) rfl
    have g0 := blk_free (i := 0) hres2
    have g1 := blk_free (i := 1) hres2
    have g2 := blk_free (i := 2) hres2
    have hfl' : w2.cell? ⟨w.heap.size + 1, 2, none⟩ = some (.bool true) := hfl
    have hb2 : Below w.heap.size w w2 := hbel0.trans ((Below.grown (Below.refl _ W0) hg1 (by omega) (fun k e => by cases e; omega)).trans (Below.grown ((Below.refl _ w1).alloc (by omega) _) hg2 (by simp; omega) (fun k e => by cases e; omega)))
    have HNO := hide hno
    clear hfl hno hte hI1
    go_wp2_with fail
    refine bodyPost_ret (v := .tuple #[.agg #[.int .i64 0, .int .i64 0, .pointer none], .bool false]) (by simp [results, Tryz.results78, go_sem, *]) rfl (Or.inr ⟨HNO.out, rfl, ?_⟩)
    exact ((hb2.setCell (Nat.le_refl _) _).setCell (Nat.le_refl _) _).setCell (Nat.le_refl _) _
end Go.Proofs.YtbkeflgafjnefaaGreatDoor
