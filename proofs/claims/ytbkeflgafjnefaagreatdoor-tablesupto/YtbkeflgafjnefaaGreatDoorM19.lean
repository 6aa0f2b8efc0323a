/- Towards the law of tables: Q16, Q17, Q18. -/
import Derived.Test.YtbkeflgafjnefaaGreatDoorM18
import Derived.Test.YtbkeflgafjnefaaGreatDoorM09
namespace Go.Proofs.YtbkeflgafjnefaaGreatDoor
open Go.RowKit
open Trib
/-- What is still to come of a list: the parts so far are acc. -/
def restG (P : Nat → List ByteArray → Option (List ByteArray × Tr)) (g : Nat) (acc : List Tr) (c : Option (List ByteArray)) : Option (List ByteArray × Tr) :=
  c.bind fun l => if hk l = 6 then (listG P g l.tail).map (fun y => (y.1, appT acc y.2)) else some (l, appT acc .nil)
theorem rest_start (P : Nat → List ByteArray → Option (List ByteArray × Tr)) (f : Nat) (c : Option (List ByteArray)) : c.bind (listG P (f + 1)) = restG P f ((c.bind (P f)).elim [] (fun x => [x.2])) ((c.bind (P f)).map (·.1)) := by
  cases c with
  | none => rfl
  | some l =>
    rw [Option.bind_some, Option.bind_some, listG]
    cases P f l with
    | none => rfl
    | some x =>
      simp only [Option.bind_some, restG, Option.map_some, Option.elim_some]
      split
      · cases listG P f x.1.tail <;> rfl
      · rfl
theorem rest_step (P : Nat → List ByteArray → Option (List ByteArray × Tr)) (g : Nat) (acc : List Tr) (l : List ByteArray) (h : hk l = 6) : restG P (g + 1) acc (some l) = restG P g (acc ++ ((some l.tail).bind (P g)).elim [] (fun x => [x.2])) (((some l.tail).bind (P g)).map (·.1)) := by
  unfold restG
  rw [Option.bind_some, if_pos h, Option.bind_some, listG]
  cases P g l.tail with
  | none => rfl
  | some x =>
    simp only [Option.bind_some, Option.map_some, Option.elim_some, appT_snoc]
    split
    · cases listG P g x.1.tail <;> simp
    · simp [appT]
theorem rest_end (P : Nat → List ByteArray → Option (List ByteArray × Tr)) (g : Nat) (acc : List Tr) (c : Option (List ByteArray)) (h : hkc c ≠ 6) : restG P g acc c = c.map fun l => (l, appT acc .nil) := by
  unfold restG
  cases c with
  | none => rfl
  | some l => rw [Option.bind_some, if_neg (by exact h)]; rfl
/-- What reading a list of parts leaves. -/
def ListPost (w : World) (b : Nat) (v : Value) (ts : List ByteArray) (o : Option (List ByteArray × Tr)) (e : Ending) (w' : World) : Prop :=
  ∃ (lv : Value) (xs : List Value), e = .returned lv ∧ w'.ownsRow w.heap.size 173 1 lv xs.length xs ∧ Rd w' b v ts (o.map (·.1)) ∧ w.grownBy w' (some b) ∧ ∀ r t, o = some (r, t) → Is w' w.heap.size t xs
/-- The list at hand between two parts. -/
def ListMid (P : Nat → List ByteArray → Option (List ByteArray × Tr)) (μ ε : Nat) (w : World) (b : Nat) (v : Value) (ts : List ByteArray) (o : Option (List ByteArray × Tr)) (lv : Value) (wr : World) (g : Nat) (acc : List Tr) (c : Option (List ByteArray)) (xs : List Value) : Prop :=
  wr.ownsRow w.heap.size 173 1 lv xs.length xs ∧ Rd wr b v ts c ∧ w.grownBy wr (some b) ∧ (∀ l, c = some l → (∃ S : Nat → Prop, IsS wr S (appT acc .nil) xs ∧ ∀ k, S k → w.heap.size ≤ k ∧ k < wr.heap.size ∧ lv.ownBlock ≠ some k) ∧ μ * l.length + ε ≤ g ∧ xs.length + l.length ≤ 1001) ∧ o = restG P g acc c
theorem infoNP : (Tryz.prog.info? 173).map (fun i => (i.zero, i.size, i.bytes)) = some (some (.pointer none), 1, 8) := by kernel_rfl
theorem Rd.len {w : World} {b : Nat} {v : Value} {ts : List ByteArray} {l : List ByteArray} (h : Rd w b v ts (some l)) : l.length ≤ ts.length := by
  obtain ⟨p, bad, _, _, _, _, hc⟩ := h
  cases bad
  · obtain rfl := Option.some.inj hc; rw [List.length_drop]; omega
  · cases hc
theorem ptr_one (W : World) (lo N : Nat) (hN : W.heap.size = N) (hlo : lo ≤ N) (x : Value) : (W.alloc (.cells #[x] 173)).ownsRow lo 173 1 (.slice (some ⟨N, 0, none⟩) 1 1) 1 [x] := ptrs_made W lo N hN hlo [x] (by show 1 ≤ 100; omega)
theorem rd_grown {w w' : World} {b : Nat} {v : Value} {ts : List ByteArray} {c : Option (List ByteArray)} {lv : Value} {base n : Nat} {xs : List Value} (h : Rd w b v ts c) (hrow : w.ownsRow base 173 1 lv n xs) (hg : w.grownBy w' lv.ownBlock) : Rd w' b v ts c := by
  obtain ⟨p, bad, h1, h2, h3⟩ := h
  have hne : some b ≠ lv.ownBlock := by
    rcases row_apart h1 hrow (by decide) with e | e
    · rw [e]; simp
    · exact fun e' => e e'.symm
  refine ⟨p, bad, (hg.block b h1.lt hne).trans h1, h2.kept hg ?_, h3⟩
  rcases h2.2 with ⟨rfl, _⟩ | ⟨g, cap, cur, rfl, _, hgb, _⟩
  · exact Or.inl rfl
  · rcases row_apart hgb hrow (by decide) with e | e
    · right; rw [e]; simp [Value.ownBlock]
    · right; intro e'; exact e e'.symm
theorem grown_row {w W W' : World} {r : Option Nat} (h : w.grownBy W r) {e : TypeId} {size n : Nat} {lv : Value} {xs : List Value} (hrow : W.ownsRow w.heap.size e size lv n xs) (hg : W.grownBy W' lv.ownBlock) : w.grownBy W' r :=
  ⟨hg.os.trans h.os, hg.tape.trans h.tape, hg.output.trans h.output, Nat.le_trans h.size hg.size, fun k hk hn => (hg.block k (Nat.lt_of_lt_of_le hk h.size) (fun e => by have := (hrow.lt k e.symm).1; omega)).trans (h.block k hk hn)⟩
theorem is_grown {w w' : World} {lo : Nat} {t : Tr} {vs : List Value} (h : Is w lo t vs) (hs : Stays lo w w') : Is w' lo t vs := h.kept hs
set_option maxHeartbeats 8000000 in
set_option maxRecDepth 100000 in
theorem list_expr (P : Nat → List ByteArray → Option (List ByteArray × Tr)) (μ ε f : Nat) (hμ : 1 ≤ μ) (b : Nat) (v : Value) (ts : List ByteArray) (c : Option (List ByteArray)) (w : World) (h : Rd w b v ts c) (hg : Glob w) (hs : Sm ts) (h8 : 8 ≤ b)
    (hle : ∀ n l x, P n l = some x → x.1.length ≤ l.length) (hp : ∀ n c', n ≤ f → (∀ r, c' = some r → μ * r.length + ε ≤ n) → PartAt 263 b v ts (P n) c') (hc : ∀ r, c = some r → μ * r.length + ε ≤ f) :
    Calls Tryz.prog 262 #[.pointer (some ⟨b, 0, none⟩), .func (.func 263) #[.pointer (some ⟨b, 0, none⟩)] #[]] w (ListPost w b v ts (c.bind (listG P (f + 1)))) := by
  obtain ⟨i0, hi, hz0, hz1, hz2⟩ := info_parts infoNP
  have hsl := hs.1
  have hst := rest_start P f c
  generalize ho : c.bind (listG P (f + 1)) = o at hst
  clear ho
  have hblt := h.lt
  go_enter Tryz.func262, Tryz.ntmps262
  go_wp2_with fail
  refine (hp f c (Nat.le_refl _) hc w h hg).mono ?_
  rintro e w1 ⟨x1, rfl, hR1, hg1, hI1⟩
  have hs1 := hg1.size
  have hm1 : ListMid P μ ε w b v ts o (.slice (some ⟨w1.heap.size, 0, none⟩) 1 1) (w1.alloc (.cells #[.pointer (some ⟨x1, 0, none⟩)] 173)) f ((c.bind (P f)).elim [] (fun x => [x.2])) ((c.bind (P f)).map (·.1)) [.pointer (some ⟨x1, 0, none⟩)] := by
    refine ⟨ptr_one w1 w.heap.size _ rfl hs1 _, hR1.alloc _, hg1.trans (World.grownBy_alloc _ _ _), fun l hl => ?_, hst⟩
    obtain ⟨x, hx, rfl⟩ := Option.map_eq_some_iff.1 hl
    obtain ⟨l0, rfl, hx'⟩ := Option.bind_eq_some_iff.1 hx
    have h1 := hle f l0 x hx'
    have h2 := hc l0 rfl
    have h3 := h.len
    rw [hx]
    refine ⟨⟨_, .cons ((hI1 x.1 x.2 hx).toS.kept (fun k hk => Below.heap_alloc w1 _ k hk.2)) .nil, fun k hk => ⟨hk.1, by simp; omega, by simp [Value.ownBlock]; omega⟩⟩, ?_, by simp; omega⟩
    have := Nat.mul_le_mul_left μ h1
    omega
  clear hst hI1 hR1
  go_wp2_with fail
  go_loopg [5] (f + 2) (fun q lv wr => ∃ (g : Nat) (acc : List Tr) (cc : Option (List ByteArray)) (xs : List Value), ListMid P μ ε w b v ts o lv wr g acc cc xs ∧ g ≤ f ∧ g < q)
  case atStart => exact ⟨f, _, _, _, hm1, Nat.le_refl _, by omega⟩
  case round =>
    clear hm1
    obtain ⟨g, acc, cc, xs, ⟨hrow, hR, hG, hI, hrest⟩, hgf, hgq⟩ := hrel
    go_wp2_with fail
    refine (accept_any b v ts cc 6 wr hR hs.1).mono ?_
    by_cases h6 : hkc cc = 6
    · rw [decide_eq_true h6]
      obtain ⟨l, rfl, h6'⟩ := hkc_some h6 (by decide)
      obtain ⟨hIl, hμl, hxl⟩ := hI l rfl
      obtain ⟨t0, r0, rfl, _⟩ := hk_some h6' (by decide)
      have hll : μ * (t0 :: r0).length = μ * r0.length + μ := by rw [List.length_cons, Nat.mul_add, Nat.mul_one]
      have hxl' : xs.length + (r0.length + 1) ≤ 1001 := hxl
      obtain ⟨g, rfl⟩ : ∃ g', g = g' + 1 := ⟨g - 1, by omega⟩
      have hacc : accC 6 (some (t0 :: r0)) = some r0 := by unfold accC; rw [if_pos h6]; rfl
      rw [hacc]
      rw [rest_step P g acc _ h6', List.tail_cons] at hrest
      have HREST := hide hrest
      clear hrest hacc hI
      rintro e w2 ⟨rfl, hR2, hg2⟩
      have hG2 := hG.trans hg2
      have hrow2 : w2.ownsRow w.heap.size 173 1 u5 xs.length xs := (stays_grown hg2 hblt).row hrow
      go_wp2_with fail
      refine (hp g (some r0) (by omega) (fun r e => by obtain rfl := Option.some.inj e; omega) w2 hR2 (hg.grown hG2 h8)).mono ?_
      rintro e w3 ⟨x3, rfl, hR3, hg3, hI3⟩
      have hG3 := hG2.trans hg3
      have hs3 := hG3.size
      have hs2 := hG2.size
      have hrow3 : w3.ownsRow w.heap.size 173 1 u5 xs.length xs := (stays_grown hg3 hblt).row hrow2
      go_wp2_with (at_builtin; refine wpList_append_lies _ rfl _ _ 147 rfl w.heap.size 173 i0 (.pointer none) 1 8 Tryz.underlying147 hi hz0 hz1 hz2 rfl (by decide) u5 xs.length xs rfl (hrow3.alloc _) ⟨w3.heap.size, 0, none⟩ 1 1 [.pointer (some ⟨x3, 0, none⟩)] rfl rfl (cell_one_new _ _ _) (by simp [Value.oneCell']) (by decide) (by unfold maxLen; omega) (by omega) (by simp; omega) (w3.heap.size + 1) (by simp) ?_; intro g5 cap5 w5 hown5 hgrow5 hat5 hlt5)
      have hrest := HREST.out
      go_roundg (gk - 1)
      case measure => omega
      case rel =>
        refine ⟨g, _, _, xs ++ [.pointer (some ⟨x3, 0, none⟩)], ⟨by rw [List.length_append]; exact hown5, rd_grown (hR3.alloc _) (hrow3.alloc _) hgrow5, grown_row (hG3.trans (World.grownBy_alloc _ _ _)) (hrow3.alloc _) hgrow5, fun l hl => ?_, hrest⟩, by omega, by omega⟩
        obtain ⟨x, hx, rfl⟩ := Option.map_eq_some_iff.1 hl
        have h1 := hle g r0 x hx
        obtain ⟨S, hS, hSk⟩ := hIl
        have hwr2 := hg2.size
        have hw23 := hg3.size
        have hz3 : (w3.alloc (.cells #[.pointer (some ⟨x3, 0, none⟩)] 173)).heap.size = w3.heap.size + 1 := by simp
        have hz5 := hgrow5.size
        have hstay : ∀ k, S k → w5.heap[k]? = wr.heap[k]? := fun k hk => by
          obtain ⟨k1, k2, k3⟩ := hSk k hk
          rw [hgrow5.block k (by omega) (fun e => k3 e.symm), Below.heap_alloc w3 _ k (by omega), hg3.block k (by omega) (by simp; omega), hg2.block k k2 (by simp; omega)]
        have hu5 : ∀ k, u5.ownBlock = some k → k < wr.heap.size := fun k hk => (hrow.lt k hk).2
        have hnew : ∀ k, w2.heap.size ≤ k ∧ k < w3.heap.size → w5.heap[k]? = w3.heap[k]? := fun k hk => by
          rw [hgrow5.block k (by omega) (fun e => by have := hu5 k e.symm; omega), Below.heap_alloc w3 _ k hk.2]
        have hA := (hS.kept hstay).mono (S' := fun k => S k ∨ (w2.heap.size ≤ k ∧ k < w3.heap.size)) (fun k h => Or.inl h)
        have hB := ((hI3 x.1 x.2 hx).toS.kept hnew).mono (S' := fun k => S k ∨ (w2.heap.size ≤ k ∧ k < w3.heap.size)) (fun k h => Or.inr h)
        rw [hx]
        refine ⟨⟨_, IsS.snoc hB hA, fun k hk => ?_⟩, ?_, by simp; omega⟩
        · rcases hk with hk | hk
          · obtain ⟨k1, k2, k3⟩ := hSk k hk
            refine ⟨k1, by omega, ?_⟩
            rcases hat5 with e | e
            · rw [e] at k3; exact k3
            · simp [Value.ownBlock]; omega
          · refine ⟨by omega, by omega, ?_⟩
            rcases hat5 with e | e
            · have := hu5 _ e
              simp [Value.ownBlock]; omega
            · simp [Value.ownBlock]; omega
        · have := Nat.mul_le_mul_left μ h1
          omega
    · rw [decide_eq_false h6]
      have hacc : accC 6 cc = cc := by unfold accC; rw [if_neg h6]
      rw [hacc]
      rw [rest_end P g acc cc h6] at hrest
      have HREST := hide hrest
      clear hrest hacc
      rintro e w2 ⟨rfl, hR2, hg2⟩
      have hG2 := hG.trans hg2
      have hrow2 : w2.ownsRow w.heap.size 173 1 u5 xs.length xs := (stays_grown hg2 hblt).row hrow
      clear h6
      go_wp2_with fail
      go_ret
      have hrest := HREST.out
      refine ⟨u5, xs, rfl, hrow2, ?_, hG2, fun r t ht => ?_⟩
      · rw [hrest]
        cases cc with
        | none => exact hR2
        | some l => exact hR2
      · rw [hrest] at ht
        cases cc with
        | none => cases ht
        | some l =>
          obtain ⟨⟨S, hS, hSk⟩, _⟩ := hI l rfl
          simp only [Option.map_some, Option.some.injEq, Prod.mk.injEq] at ht
          rw [← ht.2]
          exact (hS.toIs (fun k hk => (hSk k hk).1)).kept (stays_grown hg2 hblt)
set_option maxHeartbeats 8000000 in
set_option maxRecDepth 100000 in
theorem list_col (P : Nat → List ByteArray → Option (List ByteArray × Tr)) (μ ε f : Nat) (hμ : 1 ≤ μ) (b : Nat) (v : Value) (ts : List ByteArray) (c : Option (List ByteArray)) (w : World) (h : Rd w b v ts c) (hg : Glob w) (hs : Sm ts) (h8 : 8 ≤ b)
    (hle : ∀ n l x, P n l = some x → x.1.length ≤ l.length) (hp : ∀ n c', n ≤ f → (∀ r, c' = some r → μ * r.length + ε ≤ n) → PartAt 267 b v ts (P n) c') (hc : ∀ r, c = some r → μ * r.length + ε ≤ f) :
    Calls Tryz.prog 262 #[.pointer (some ⟨b, 0, none⟩), .func (.func 267) #[.pointer (some ⟨b, 0, none⟩)] #[]] w (ListPost w b v ts (c.bind (listG P (f + 1)))) := by
  obtain ⟨i0, hi, hz0, hz1, hz2⟩ := info_parts infoNP
  have hsl := hs.1
  have hst := rest_start P f c
  generalize ho : c.bind (listG P (f + 1)) = o at hst
  clear ho
  have hblt := h.lt
  go_enter Tryz.func262, Tryz.ntmps262
  go_wp2_with fail
  refine (hp f c (Nat.le_refl _) hc w h hg).mono ?_
  rintro e w1 ⟨x1, rfl, hR1, hg1, hI1⟩
  have hs1 := hg1.size
  have hm1 : ListMid P μ ε w b v ts o (.slice (some ⟨w1.heap.size, 0, none⟩) 1 1) (w1.alloc (.cells #[.pointer (some ⟨x1, 0, none⟩)] 173)) f ((c.bind (P f)).elim [] (fun x => [x.2])) ((c.bind (P f)).map (·.1)) [.pointer (some ⟨x1, 0, none⟩)] := by
    refine ⟨ptr_one w1 w.heap.size _ rfl hs1 _, hR1.alloc _, hg1.trans (World.grownBy_alloc _ _ _), fun l hl => ?_, hst⟩
    obtain ⟨x, hx, rfl⟩ := Option.map_eq_some_iff.1 hl
    obtain ⟨l0, rfl, hx'⟩ := Option.bind_eq_some_iff.1 hx
    have h1 := hle f l0 x hx'
    have h2 := hc l0 rfl
    have h3 := h.len
    rw [hx]
    refine ⟨⟨_, .cons ((hI1 x.1 x.2 hx).toS.kept (fun k hk => Below.heap_alloc w1 _ k hk.2)) .nil, fun k hk => ⟨hk.1, by simp; omega, by simp [Value.ownBlock]; omega⟩⟩, ?_, by simp; omega⟩
    have := Nat.mul_le_mul_left μ h1
    omega
  clear hst hI1 hR1
  go_wp2_with fail
  go_loopg [5] (f + 2) (fun q lv wr => ∃ (g : Nat) (acc : List Tr) (cc : Option (List ByteArray)) (xs : List Value), ListMid P μ ε w b v ts o lv wr g acc cc xs ∧ g ≤ f ∧ g < q)
  case atStart => exact ⟨f, _, _, _, hm1, Nat.le_refl _, by omega⟩
  case round =>
    clear hm1
    obtain ⟨g, acc, cc, xs, ⟨hrow, hR, hG, hI, hrest⟩, hgf, hgq⟩ := hrel
    go_wp2_with fail
    refine (accept_any b v ts cc 6 wr hR hs.1).mono ?_
    by_cases h6 : hkc cc = 6
    · rw [decide_eq_true h6]
      obtain ⟨l, rfl, h6'⟩ := hkc_some h6 (by decide)
      obtain ⟨hIl, hμl, hxl⟩ := hI l rfl
      obtain ⟨t0, r0, rfl, _⟩ := hk_some h6' (by decide)
      have hll : μ * (t0 :: r0).length = μ * r0.length + μ := by rw [List.length_cons, Nat.mul_add, Nat.mul_one]
      have hxl' : xs.length + (r0.length + 1) ≤ 1001 := hxl
      obtain ⟨g, rfl⟩ : ∃ g', g = g' + 1 := ⟨g - 1, by omega⟩
      have hacc : accC 6 (some (t0 :: r0)) = some r0 := by unfold accC; rw [if_pos h6]; rfl
      rw [hacc]
      rw [rest_step P g acc _ h6', List.tail_cons] at hrest
      have HREST := hide hrest
      clear hrest hacc hI
      rintro e w2 ⟨rfl, hR2, hg2⟩
      have hG2 := hG.trans hg2
      have hrow2 : w2.ownsRow w.heap.size 173 1 u5 xs.length xs := (stays_grown hg2 hblt).row hrow
      go_wp2_with fail
      refine (hp g (some r0) (by omega) (fun r e => by obtain rfl := Option.some.inj e; omega) w2 hR2 (hg.grown hG2 h8)).mono ?_
      rintro e w3 ⟨x3, rfl, hR3, hg3, hI3⟩
      have hG3 := hG2.trans hg3
      have hs3 := hG3.size
      have hs2 := hG2.size
      have hrow3 : w3.ownsRow w.heap.size 173 1 u5 xs.length xs := (stays_grown hg3 hblt).row hrow2
      go_wp2_with (at_builtin; refine wpList_append_lies _ rfl _ _ 147 rfl w.heap.size 173 i0 (.pointer none) 1 8 Tryz.underlying147 hi hz0 hz1 hz2 rfl (by decide) u5 xs.length xs rfl (hrow3.alloc _) ⟨w3.heap.size, 0, none⟩ 1 1 [.pointer (some ⟨x3, 0, none⟩)] rfl rfl (cell_one_new _ _ _) (by simp [Value.oneCell']) (by decide) (by unfold maxLen; omega) (by omega) (by simp; omega) (w3.heap.size + 1) (by simp) ?_; intro g5 cap5 w5 hown5 hgrow5 hat5 hlt5)
      have hrest := HREST.out
      go_roundg (gk - 1)
      case measure => omega
      case rel =>
        refine ⟨g, _, _, xs ++ [.pointer (some ⟨x3, 0, none⟩)], ⟨by rw [List.length_append]; exact hown5, rd_grown (hR3.alloc _) (hrow3.alloc _) hgrow5, grown_row (hG3.trans (World.grownBy_alloc _ _ _)) (hrow3.alloc _) hgrow5, fun l hl => ?_, hrest⟩, by omega, by omega⟩
        obtain ⟨x, hx, rfl⟩ := Option.map_eq_some_iff.1 hl
        have h1 := hle g r0 x hx
        obtain ⟨S, hS, hSk⟩ := hIl
        have hwr2 := hg2.size
        have hw23 := hg3.size
        have hz3 : (w3.alloc (.cells #[.pointer (some ⟨x3, 0, none⟩)] 173)).heap.size = w3.heap.size + 1 := by simp
        have hz5 := hgrow5.size
        have hstay : ∀ k, S k → w5.heap[k]? = wr.heap[k]? := fun k hk => by
          obtain ⟨k1, k2, k3⟩ := hSk k hk
          rw [hgrow5.block k (by omega) (fun e => k3 e.symm), Below.heap_alloc w3 _ k (by omega), hg3.block k (by omega) (by simp; omega), hg2.block k k2 (by simp; omega)]
        have hu5 : ∀ k, u5.ownBlock = some k → k < wr.heap.size := fun k hk => (hrow.lt k hk).2
        have hnew : ∀ k, w2.heap.size ≤ k ∧ k < w3.heap.size → w5.heap[k]? = w3.heap[k]? := fun k hk => by
          rw [hgrow5.block k (by omega) (fun e => by have := hu5 k e.symm; omega), Below.heap_alloc w3 _ k hk.2]
        have hA := (hS.kept hstay).mono (S' := fun k => S k ∨ (w2.heap.size ≤ k ∧ k < w3.heap.size)) (fun k h => Or.inl h)
        have hB := ((hI3 x.1 x.2 hx).toS.kept hnew).mono (S' := fun k => S k ∨ (w2.heap.size ≤ k ∧ k < w3.heap.size)) (fun k h => Or.inr h)
        rw [hx]
        refine ⟨⟨_, IsS.snoc hB hA, fun k hk => ?_⟩, ?_, by simp; omega⟩
        · rcases hk with hk | hk
          · obtain ⟨k1, k2, k3⟩ := hSk k hk
            refine ⟨k1, by omega, ?_⟩
            rcases hat5 with e | e
            · rw [e] at k3; exact k3
            · simp [Value.ownBlock]; omega
          · refine ⟨by omega, by omega, ?_⟩
            rcases hat5 with e | e
            · have := hu5 _ e
              simp [Value.ownBlock]; omega
            · simp [Value.ownBlock]; omega
        · have := Nat.mul_le_mul_left μ h1
          omega
    · rw [decide_eq_false h6]
      have hacc : accC 6 cc = cc := by unfold accC; rw [if_neg h6]
      rw [hacc]
      rw [rest_end P g acc cc h6] at hrest
      have HREST := hide hrest
      clear hrest hacc
      rintro e w2 ⟨rfl, hR2, hg2⟩
      have hG2 := hG.trans hg2
      have hrow2 : w2.ownsRow w.heap.size 173 1 u5 xs.length xs := (stays_grown hg2 hblt).row hrow
      clear h6
      go_wp2_with fail
      go_ret
      have hrest := HREST.out
      refine ⟨u5, xs, rfl, hrow2, ?_, hG2, fun r t ht => ?_⟩
      · rw [hrest]
        cases cc with
        | none => exact hR2
        | some l => exact hR2
      · rw [hrest] at ht
        cases cc with
        | none => cases ht
        | some l =>
          obtain ⟨⟨S, hS, hSk⟩, _⟩ := hI l rfl
          simp only [Option.map_some, Option.some.injEq, Prod.mk.injEq] at ht
          rw [← ht.2]
          exact (hS.toIs (fun k hk => (hSk k hk).1)).kept (stays_grown hg2 hblt)
end Go.Proofs.YtbkeflgafjnefaaGreatDoor
namespace Go.Proofs.YtbkeflgafjnefaaGreatDoor
open Go.RowKit
open Trib
theorem src_chain (c : Option (List ByteArray)) : tkR 1 (tkR 1 c) = (c.bind srcT).map (·.1) ∧ ∀ r s, c.bind srcT = some (r, s) → s = ((tkT 1 c).2, (tkT 1 (tkR 1 c)).2) := by
  unfold tkR tkT tk
  cases c with
  | none => exact ⟨rfl, fun r t h => by cases h⟩
  | some ts =>
    simp only [Option.bind_some]
    unfold srcT
    cases takeT 1 ts with
    | none => exact ⟨rfl, fun r t h => by cases h⟩
    | some a =>
      simp only [Option.map_some, Option.bind_some]
      cases takeT 1 a.2 with
      | none => exact ⟨rfl, fun r t h => by cases h⟩
      | some x =>
        refine ⟨rfl, fun r t h => ?_⟩
        simp only [Option.bind_some, Option.some.injEq, Prod.mk.injEq] at h
        exact h.2.symm
/-- What reading a source leaves. -/
def SrcPost (w : World) (b : Nat) (v : Value) (ts : List ByteArray) (o : Option (List ByteArray × (ByteArray × ByteArray))) (e : Ending) (w' : World) : Prop :=
  ∃ s1 s2 : ByteArray, e = .returned (.agg #[.string s1, .string s2]) ∧ Rd w' b v ts (o.map (·.1)) ∧ w.grownBy w' (some b) ∧ ∀ r s, o = some (r, s) → s = (s1, s2)
set_option maxHeartbeats 8000000 in
set_option maxRecDepth 100000 in
theorem source_part (b : Nat) (v : Value) (ts : List ByteArray) (c : Option (List ByteArray)) (w : World) (h : Rd w b v ts c) (hl : ts.length ≤ 1000) :
    Calls Tryz.prog 265 #[.pointer (some ⟨b, 0, none⟩)] w (SrcPost w b v ts (c.bind srcT)) := by
  obtain ⟨e1, e2⟩ := src_chain c
  unfold SrcPost
  generalize hT1 : tkT 1 c = T1 at e2
  generalize hc1 : tkR 1 c = c1 at e1 e2
  generalize hT2 : tkT 1 c1 = T2 at e2
  generalize hc2 : tkR 1 c1 = c2 at e1
  rw [← e1]
  have E2 := hide e2
  clear e1 e2
  obtain ⟨T1a, T1b⟩ := T1
  obtain ⟨T2a, T2b⟩ := T2
  have hblt := h.lt
  have hown := h.own
  have hR0 := h.alloc (.cells #[.string ⟨#[]⟩, .string ⟨#[]⟩] 262)
  go_enter Tryz.func265, Tryz.ntmps265
  go_wp2_with fail
  refine (expectE 1 1 rfl (by decide) b v ts c c1 _ hT1 hc1 _ _ (by simp) hR0 hl).mono ?_
  rintro e w1 ⟨rfl, hR1, hg1⟩
  have hR1' := hR1.alloc (.cells #[.int .i64 (T1a : Int), .string T1b] 154)
  have hs1 : w.heap.size + 1 ≤ w1.heap.size := by have := hg1.size; simpa using this
  have hblk0 := made_keptP (o := .cells #[.string ⟨#[]⟩, .string ⟨#[]⟩] 262) rfl hblt hg1
  go_wp2_with fail
  refine (expectE 1 1 rfl (by decide) b v ts c1 c2 _ hT2 hc2 _ _ (by simp) hR1' hl).mono ?_
  rintro e w2 ⟨rfl, hR2, hg2⟩
  have hs2 : w1.heap.size + 1 ≤ w2.heap.size := by have := hg2.size; simpa using this
  have hblk1 : w2.heap[w1.heap.size]? = some (.cells #[.int .i64 (T1a : Int), .string T1b] 154 (0, 0)) := made_keptP rfl hR1.lt hg2
  have hblk2 := kept_ne (blk_alloc hblk0 (.cells #[.int .i64 (T1a : Int), .string T1b] 154)) hg2 (by omega)
  have hblk3 := blk_alloc hblk2 (.cells #[.int .i64 (T2a : Int), .string T2b] 154)
  have d1 := blk_cell (blk_alloc hblk1 (.cells #[.int .i64 (T2a : Int), .string T2b] 154)) (i := 1) rfl
  have n0 := blk_cell hblk3 (i := 0) rfl
  have n1 := blk_cell hblk3 (i := 1) rfl
  have f0 := blk_free (i := 0) hblk3
  have f1 := blk_free (i := 1) hblk3
  have hG : w.grownBy w2 (some b) := ((World.grownBy_alloc w _ _).trans hg1).trans ((World.grownBy_alloc w1 _ _).trans hg2)
  clear hT1 hc1 hT2 hc2
  go_wp2_with fail
  refine bodyPost_ret (v := .agg #[.string T1b, .string T2b]) (by simp [results, Tryz.results265, go_sem, *]) rfl ⟨T1b, T2b, rfl, ?_, ?_, fun r s hs => E2.out r s hs⟩
  · exact ((hR2.alloc _).setNew hown hblt (Nat.le_refl _) _).setNew hown hblt (Nat.le_refl _) _
  · exact grown_set_new (grown_set_new (hG.trans (World.grownBy_alloc w2 _ _)) (Nat.le_refl _) _ _) (Nat.le_refl _) _ _
def restS (g : Nat) (acc : List (ByteArray × ByteArray)) (c : Option (List ByteArray)) : Option (List ByteArray × List (ByteArray × ByteArray)) :=
  c.bind fun l => if hk l = 6 then (srcsT g l.tail).map (fun y => (y.1, acc ++ y.2)) else some (l, acc)
theorem restS_start (f : Nat) (c : Option (List ByteArray)) : c.bind (srcsT (f + 1)) = restS f ((c.bind srcT).elim [] (fun x => [x.2])) ((c.bind srcT).map (·.1)) := by
  cases c with
  | none => rfl
  | some l =>
    rw [Option.bind_some, Option.bind_some, srcsT]
    cases srcT l with
    | none => rfl
    | some x =>
      simp only [Option.bind_some, restS, Option.map_some, Option.elim_some]
      split
      · cases srcsT f x.1.tail <;> rfl
      · rfl
theorem restS_step (g : Nat) (acc : List (ByteArray × ByteArray)) (l : List ByteArray) (h : hk l = 6) : restS (g + 1) acc (some l) = restS g (acc ++ ((some l.tail).bind srcT).elim [] (fun x => [x.2])) (((some l.tail).bind srcT).map (·.1)) := by
  unfold restS
  rw [Option.bind_some, if_pos h, Option.bind_some, srcsT]
  cases srcT l.tail with
  | none => rfl
  | some x =>
    simp only [Option.bind_some, Option.map_some, Option.elim_some]
    split
    · cases srcsT g x.1.tail <;> simp
    · simp
theorem restS_end (g : Nat) (acc : List (ByteArray × ByteArray)) (c : Option (List ByteArray)) (h : hkc c ≠ 6) : restS g acc c = c.map fun l => (l, acc) := by
  unfold restS
  cases c with
  | none => rfl
  | some l => rw [Option.bind_some, if_neg (by exact h)]; rfl
theorem srcT_le {l : List ByteArray} {x : List ByteArray × (ByteArray × ByteArray)} (h : srcT l = some x) : x.1.length ≤ l.length := by
  unfold srcT at h
  obtain ⟨a, ha, h⟩ := Option.bind_eq_some_iff.1 h
  obtain ⟨d, hd, h⟩ := Option.bind_eq_some_iff.1 h
  obtain rfl := Option.some.inj h
  have := takeT_len ha
  have := takeT_len hd
  show d.2.length ≤ _
  omega
/-- What reading the sources leaves. -/
def SrcsPost (w : World) (b : Nat) (v : Value) (ts : List ByteArray) (o : Option (List ByteArray × List (ByteArray × ByteArray))) (e : Ending) (w' : World) : Prop :=
  ∃ (lv : Value) (n : Nat) (xs : List Value), e = .returned lv ∧ w'.ownsRow w.heap.size 262 2 lv n xs ∧ Rd w' b v ts (o.map (·.1)) ∧ w.grownBy w' (some b) ∧ ∀ r l, o = some (r, l) → n = l.length ∧ xs = srcCells l
def SrcMid (w : World) (b : Nat) (v : Value) (ts : List ByteArray) (o : Option (List ByteArray × List (ByteArray × ByteArray))) (lv : Value) (wr : World) (g : Nat) (acc : List (ByteArray × ByteArray)) (c : Option (List ByteArray)) (n : Nat) (xs : List Value) : Prop :=
  wr.ownsRow w.heap.size 262 2 lv n xs ∧ Rd wr b v ts c ∧ w.grownBy wr (some b) ∧ (∀ l, c = some l → n = acc.length ∧ xs = srcCells acc ∧ l.length ≤ g ∧ n + l.length ≤ 1001) ∧ o = restS g acc c
theorem infoSrc : (Tryz.prog.info? 262).map (fun i => (i.zero, i.size, i.bytes)) = some (some (.agg #[.string ⟨#[]⟩, .string ⟨#[]⟩]), 2, 32) := by kernel_rfl
theorem src_new (w : World) (a b : Value) (t : TypeId) : ∀ j u, ([a, b] : List Value)[j]? = some u → (w.alloc (.cells #[a, b] t)).cell? ((⟨w.heap.size, 0, none⟩ : Addr).add j) = some u :=
  World.news_of_block (cs := #[a, b]) (heap_alloc_new w _)
theorem src_one (W : World) (lo N : Nat) (hN : W.heap.size = N) (hlo : lo ≤ N) (x y : Value) : (W.alloc (.cells #[x, y] 262)).ownsRow lo 262 2 (.slice (some ⟨N, 0, none⟩) 1 1) 1 [x, y] := by
  subst hN
  exact ⟨rfl, Or.inr ⟨W.heap.size, 1, #[x, y], rfl, hlo, heap_alloc_new W _, Nat.le_refl _, by unfold maxLen; omega, rfl, rfl⟩⟩
theorem rd_grownS {w w' : World} {b : Nat} {v : Value} {ts : List ByteArray} {c : Option (List ByteArray)} {lv : Value} {base n : Nat} {xs : List Value} (h : Rd w b v ts c) (hrow : w.ownsRow base 262 2 lv n xs) (hg : w.grownBy w' lv.ownBlock) : Rd w' b v ts c := by
  obtain ⟨p, bad, h1, h2, h3⟩ := h
  have hne : some b ≠ lv.ownBlock := by
    rcases row_apart h1 hrow (by decide) with e | e
    · rw [e]; simp
    · exact fun e' => e e'.symm
  refine ⟨p, bad, (hg.block b h1.lt hne).trans h1, h2.kept hg ?_, h3⟩
  rcases h2.2 with ⟨rfl, _⟩ | ⟨g, cap, cur, rfl, _, hgb, _⟩
  · exact Or.inl rfl
  · rcases row_apart hgb hrow (by decide) with e | e
    · right; rw [e]; simp [Value.ownBlock]
    · right; intro e'; exact e e'.symm
theorem srcCells_snoc (l : List (ByteArray × ByteArray)) (s : ByteArray × ByteArray) : srcCells (l ++ [s]) = srcCells l ++ [.string s.1, .string s.2] := by simp [srcCells]
set_option maxHeartbeats 8000000 in
set_option maxRecDepth 100000 in
theorem list_src (f : Nat) (b : Nat) (v : Value) (ts : List ByteArray) (c : Option (List ByteArray)) (w : World) (h : Rd w b v ts c) (hs : Sm ts) (hc : ∀ r, c = some r → r.length ≤ f) :
    Calls Tryz.prog 264 #[.pointer (some ⟨b, 0, none⟩), .func (.func 265) #[.pointer (some ⟨b, 0, none⟩)] #[]] w (SrcsPost w b v ts (c.bind (srcsT (f + 1)))) := by
  obtain ⟨i0, hi, hz0, hz1, hz2⟩ := info_parts infoSrc
  have hsl := hs.1
  have hst := restS_start f c
  generalize ho : c.bind (srcsT (f + 1)) = o at hst
  clear ho
  have hblt := h.lt
  go_enter Tryz.func264, Tryz.ntmps264
  go_wp2_with fail
  refine (source_part b v ts c w h hsl).mono ?_
  rintro e w1 ⟨s1, s2, rfl, hR1, hg1, hI1⟩
  have hs1 := hg1.size
  have hm1 : SrcMid w b v ts o (.slice (some ⟨w1.heap.size, 0, none⟩) 1 1) (w1.alloc (.cells #[.string s1, .string s2] 262)) f ((c.bind srcT).elim [] (fun x => [x.2])) ((c.bind srcT).map (·.1)) 1 [.string s1, .string s2] := by
    refine ⟨src_one w1 w.heap.size _ rfl hs1 _ _, hR1.alloc _, hg1.trans (World.grownBy_alloc _ _ _), fun l hl => ?_, hst⟩
    obtain ⟨x, hx, rfl⟩ := Option.map_eq_some_iff.1 hl
    obtain ⟨l0, rfl, hx'⟩ := Option.bind_eq_some_iff.1 hx
    have h1 := srcT_le hx'
    have h2 := hc l0 rfl
    have h3 := h.len
    have h4 := hI1 x.1 x.2 hx
    rw [hx]
    refine ⟨rfl, ?_, by omega, by omega⟩
    show _ = srcCells [x.2]
    rw [h4]; rfl
  clear hst hI1 hR1
  go_wp2_with fail
  go_loopg [5] (f + 2) (fun q lv wr => ∃ (g : Nat) (acc : List (ByteArray × ByteArray)) (cc : Option (List ByteArray)) (n : Nat) (xs : List Value), SrcMid w b v ts o lv wr g acc cc n xs ∧ g ≤ f ∧ g < q)
  case atStart => exact ⟨f, _, _, _, _, hm1, Nat.le_refl _, by omega⟩
  case round =>
    clear hm1
    obtain ⟨g, acc, cc, n, xs, ⟨hrow, hR, hG, hI, hrest⟩, hgf, hgq⟩ := hrel
    go_wp2_with fail
    refine (accept_any b v ts cc 6 wr hR hs.1).mono ?_
    by_cases h6 : hkc cc = 6
    · rw [decide_eq_true h6]
      obtain ⟨l, rfl, h6'⟩ := hkc_some h6 (by decide)
      obtain ⟨hna, hxa, hlg, hxl⟩ := hI l rfl
      obtain ⟨t0, r0, rfl, _⟩ := hk_some h6' (by decide)
      have hxl' : n + (r0.length + 1) ≤ 1001 := hxl
      have hlg' : r0.length + 1 ≤ g := hlg
      obtain ⟨g, rfl⟩ : ∃ g', g = g' + 1 := ⟨g - 1, by omega⟩
      have hacc : accC 6 (some (t0 :: r0)) = some r0 := by unfold accC; rw [if_pos h6]; rfl
      rw [hacc]
      rw [restS_step g acc _ h6', List.tail_cons] at hrest
      have HREST := hide hrest
      have HXA := hide hxa
      have HNA := hide hna
      clear hrest hacc hI hxa hna
      rintro e w2 ⟨rfl, hR2, hg2⟩
      have hG2 := hG.trans hg2
      have hrow2 : w2.ownsRow w.heap.size 262 2 u5 n xs := (stays_grown hg2 hblt).row hrow
      go_wp2_with fail
      refine (source_part b v ts (some r0) w2 hR2 hsl).mono ?_
      rintro e w3 ⟨s1, s2, rfl, hR3, hg3, hI3⟩
      have hG3 := hG2.trans hg3
      have hs3 := hG3.size
      have hs2 := hG2.size
      have hrow3 : w3.ownsRow w.heap.size 262 2 u5 n xs := (stays_grown hg3 hblt).row hrow2
      go_wp2_with (at_builtin; refine wpList_append_lies _ rfl _ _ 172 rfl w.heap.size 262 i0 (.agg #[.string ⟨#[]⟩, .string ⟨#[]⟩]) 2 32 Tryz.underlying172 hi hz0 hz1 hz2 rfl (by decide) u5 n xs rfl (hrow3.alloc _) ⟨w3.heap.size, 0, none⟩ 1 1 [.string s1, .string s2] rfl rfl (src_new _ _ _ _) (by simp [Value.oneCell']) (by decide) (by unfold maxLen; omega) (by omega) (by simp; omega) (w3.heap.size + 1) (by simp) ?_; intro g5 cap5 w5 hown5 hgrow5 hat5 hlt5)
      have hrest := HREST.out
      go_roundg (gk - 1)
      case measure => omega
      case rel =>
        refine ⟨g, _, _, n + 1, xs ++ [.string s1, .string s2], ⟨hown5, rd_grownS (hR3.alloc _) (hrow3.alloc _) hgrow5, grown_row (hG3.trans (World.grownBy_alloc _ _ _)) (hrow3.alloc _) hgrow5, fun l hl => ?_, hrest⟩, by omega, by omega⟩
        obtain ⟨x, hx, rfl⟩ := Option.map_eq_some_iff.1 hl
        have h1 := srcT_le (by simpa using hx : srcT r0 = some x)
        have h4 := hI3 x.1 x.2 hx
        have h5 := HXA.out
        have h7 := HNA.out
        rw [hx]
        refine ⟨?_, ?_, by omega, by omega⟩
        · show n + 1 = (acc ++ [x.2]).length
          rw [List.length_append, h7]; rfl
        · show xs ++ _ = srcCells (acc ++ [x.2])
          rw [srcCells_snoc, h4, h5]
    · rw [decide_eq_false h6]
      have hacc : accC 6 cc = cc := by unfold accC; rw [if_neg h6]
      rw [hacc]
      rw [restS_end g acc cc h6] at hrest
      have HREST := hide hrest
      clear hrest hacc
      rintro e w2 ⟨rfl, hR2, hg2⟩
      have hG2 := hG.trans hg2
      have hrow2 : w2.ownsRow w.heap.size 262 2 u5 n xs := (stays_grown hg2 hblt).row hrow
      clear h6
      go_wp2_with fail
      go_ret
      have hrest := HREST.out
      refine ⟨u5, n, xs, rfl, hrow2, ?_, hG2, fun r l ht => ?_⟩
      · rw [hrest]
        cases cc with
        | none => exact hR2
        | some l => exact hR2
      · rw [hrest] at ht
        cases cc with
        | none => cases ht
        | some l0 =>
          obtain ⟨h1, h2, _⟩ := hI l0 rfl
          simp only [Option.map_some, Option.some.injEq, Prod.mk.injEq] at ht
          rw [← ht.2]
          exact ⟨h1, h2⟩
end Go.Proofs.YtbkeflgafjnefaaGreatDoor
namespace Go.Proofs.YtbkeflgafjnefaaGreatDoor
open Go.RowKit
open Trib
def optT (k f : Nat) (l : List ByteArray) : Option (List ByteArray × Tr) := if hk l = k then CT f 1 l.tail else some (l, .nil)
def grpT (l : List ByteArray) : Option (List ByteArray × Tr) := if hk l = 17 then (takeT 18 l.tail).bind fun c => listG (fun _ => colT) (c.2.length + 1) c.2 else some (l, .nil)
def srcsA (l : List ByteArray) : Option (List ByteArray × List (ByteArray × ByteArray)) := srcsT (l.length + 1) l
theorem q_chain (f : Nat) (c : Option (List ByteArray)) {s1 s3 s5 s7 : Option (List ByteArray)} {o2 : Option (List ByteArray × Tr)} {o4 : Option (List ByteArray × List (ByteArray × ByteArray))} {o5 o7 o8 : Option (List ByteArray × Tr)}
    (h1 : tkR 14 c = s1) (h2 : s1.bind (CT f 3) = o2) (h3 : tkR 15 (o2.map (·.1)) = s3) (h4 : s3.bind srcsA = o4) (h5 : (o4.map (·.1)).bind (optT 16 f) = o5) (h5' : o5.map (·.1) = s5) (h7 : s5.bind grpT = o7) (h7' : o7.map (·.1) = s7) (h8 : s7.bind (optT 19 f) = o8) :
    o8.map (·.1) = (c.bind (CT (f + 1) 2)).map (·.1) ∧ ∀ r t, c.bind (CT (f + 1) 2) = some (r, t) → ∃ x s y g z, o2 = some x ∧ o4 = some s ∧ o5 = some y ∧ o7 = some g ∧ o8 = some z ∧ t = .query x.2 s.2 y.2 g.2 z.2 := by
  subst h1 h2 h3 h4 h5 h5' h7 h7' h8
  cases c with
  | none => exact ⟨rfl, fun r t h => by cases h⟩
  | some l =>
    rw [Option.bind_some, CT, tkR_some]
    cases takeT 14 l with
    | none => exact ⟨rfl, fun r t h => by cases h⟩
    | some a =>
      simp only [Option.map_some, Option.bind_some]
      cases CT f 3 a.2 with
      | none => exact ⟨rfl, fun r t h => by cases h⟩
      | some x =>
        simp only [Option.map_some, Option.bind_some]
        rw [tkR_some]
        cases takeT 15 x.1 with
        | none => exact ⟨rfl, fun r t h => by cases h⟩
        | some d =>
          simp only [Option.map_some, Option.bind_some]
          unfold srcsA
          cases srcsT (d.2.length + 1) d.2 with
          | none => exact ⟨rfl, fun r t h => by cases h⟩
          | some s =>
            simp only [Option.map_some, Option.bind_some]
            have e1 : (if hk s.1 = 16 then CT f 1 s.1.tail else some (s.1, .nil)) = optT 16 f s.1 := rfl
            rw [e1]
            cases optT 16 f s.1 with
            | none => exact ⟨rfl, fun r t h => by cases h⟩
            | some y =>
              simp only [Option.map_some, Option.bind_some]
              have e2 : (if hk y.1 = 17 then (takeT 18 y.1.tail).bind fun c => listG (fun _ => colT) (c.2.length + 1) c.2 else some (y.1, .nil)) = grpT y.1 := rfl
              rw [e2]
              cases grpT y.1 with
              | none => exact ⟨rfl, fun r t h => by cases h⟩
              | some g =>
                simp only [Option.map_some, Option.bind_some]
                have e3 : (if hk g.1 = 19 then CT f 1 g.1.tail else some (g.1, .nil)) = optT 19 f g.1 := rfl
                rw [e3]
                cases optT 19 f g.1 with
                | none => exact ⟨rfl, fun r t h => by cases h⟩
                | some z =>
                  refine ⟨rfl, fun r t h => ⟨x, s, y, g, z, rfl, rfl, rfl, rfl, rfl, ?_⟩⟩
                  simp only [Option.bind_some, Option.some.injEq, Prod.mk.injEq] at h
                  exact h.2.symm
theorem srcsT_fuel : ∀ (f g : Nat) (l : List ByteArray), l.length < f → l.length < g → srcsT f l = srcsT g l := by
  intro f
  induction f with
  | zero => intro g l h; omega
  | succ f ih =>
    intro g l h1 h2
    match g, h2 with
    | g + 1, h2 =>
      rw [srcsT, srcsT]
      cases hx : srcT l with
      | none => rfl
      | some x =>
        simp only [Option.bind_some]
        have hle := srcT_le hx
        split
        · rename_i h6
          obtain ⟨t0, r0, e, _⟩ := hk_some h6 (by decide)
          have : x.1.tail.length + 1 ≤ x.1.length := by rw [e]; simp
          rw [ih g x.1.tail (by omega) (by omega)]
        · rfl
theorem colT_le {l : List ByteArray} {x : List ByteArray × Tr} (h : colT l = some x) : x.1.length ≤ l.length := by
  unfold colT at h
  obtain ⟨a, ha, h⟩ := Option.bind_eq_some_iff.1 h
  obtain ⟨d, hd, h⟩ := Option.bind_eq_some_iff.1 h
  obtain ⟨e, he, h⟩ := Option.bind_eq_some_iff.1 h
  obtain rfl := Option.some.inj h
  have := takeT_len ha
  have := takeT_len hd
  have := takeT_len he
  show e.2.length ≤ _
  omega
theorem colsT_fuel : ∀ (f g : Nat) (l : List ByteArray), l.length < f → l.length < g → listG (fun _ => colT) f l = listG (fun _ => colT) g l := by
  intro f
  induction f with
  | zero => intro g l h; omega
  | succ f ih =>
    intro g l h1 h2
    match g, h2 with
    | g + 1, h2 =>
      rw [listG, listG]
      cases hx : colT l with
      | none => rfl
      | some x =>
        simp only [Option.bind_some]
        have hle := colT_le hx
        split
        · rename_i h6
          obtain ⟨t0, r0, e, _⟩ := hk_some h6 (by decide)
          have : x.1.tail.length + 1 ≤ x.1.length := by rw [e]; simp
          rw [ih g x.1.tail (by omega) (by omega)]
        · rfl
/-- The query that is being made, in the block behind w. -/
structure QS (w : World) (b : Nat) (v : Value) (ts : List ByteArray) (W : World) (s : Option (List ByteArray)) (cs : Array Value) : Prop where
  rd : Rd W b v ts s
  gr : w.grownBy W (some b)
  q : W.heap[w.heap.size]? = some (.cells cs 175 (0, 0))
theorem QS.call {w : World} {b : Nat} {v : Value} {ts : List ByteArray} {W W' : World} {s s' : Option (List ByteArray)} {cs : Array Value} (h : QS w b v ts W s cs) (hb : b < w.heap.size) (hr : Rd W' b v ts s') (hg : W.grownBy W' (some b)) : QS w b v ts W' s' cs :=
  ⟨hr, h.gr.trans hg, kept_ne h.q hg (by omega)⟩
theorem QS.set {w : World} {b : Nat} {v : Value} {ts : List ByteArray} {W : World} {s : Option (List ByteArray)} {cs : Array Value} (h : QS w b v ts W s cs) (i : Nat) (x : Value) : QS w b v ts (W.setCell ⟨w.heap.size, i, none⟩ x) s (cs.setIfInBounds i x) :=
  ⟨h.rd.set x h.q (by decide) (by decide), grown_set_new h.gr (Nat.le_refl _) i x, heap_setCell h.q x⟩
theorem QS.cell {w : World} {b : Nat} {v : Value} {ts : List ByteArray} {W : World} {s : Option (List ByteArray)} {cs : Array Value} (h : QS w b v ts W s cs) {i : Nat} {x : Value} (hx : cs[i]? = some x) : W.cell? ⟨w.heap.size, i, none⟩ = some x := blk_cell h.q hx
theorem QS.free {w : World} {b : Nat} {v : Value} {ts : List ByteArray} {W : World} {s : Option (List ByteArray)} {cs : Array Value} (h : QS w b v ts W s cs) (i : Nat) : W.frozen? ⟨w.heap.size, i, none⟩ = false := blk_free h.q
theorem QS.len {w : World} {b : Nat} {v : Value} {ts : List ByteArray} {W : World} {l : List ByteArray} {cs : Array Value} (h : QS w b v ts W (some l) cs) : l.length ≤ ts.length := h.rd.len
/-- A cond behind a keyword, if that stands there. -/
def OptTo (k f lo : Nat) (s : Option (List ByteArray)) (W : World) (s' : Option (List ByteArray)) (xs : List Value) : Prop := s' = (s.bind (optT k f)).map (·.1) ∧ ∀ r t, s.bind (optT k f) = some (r, t) → Is W lo t xs
theorem optTo_no {k f lo : Nat} {s : Option (List ByteArray)} {W : World} (h : hkc s ≠ k) : OptTo k f lo s W s [] := by
  cases s with
  | none => exact ⟨rfl, fun r t h => by cases h⟩
  | some l =>
    have e : optT k f l = some (l, .nil) := by unfold optT; rw [if_neg (by exact h)]
    refine ⟨by rw [Option.bind_some, e]; rfl, fun r t ht => ?_⟩
    rw [Option.bind_some, e] at ht
    simp only [Option.some.injEq, Prod.mk.injEq] at ht
    rw [← ht.2]; exact .nil
theorem opt_yes {k f : Nat} {s : Option (List ByteArray)} (hk0 : k ≠ 0) (h : hkc s = k) : s.bind (optT k f) = (tailc s).bind (CT f 1) := by
  obtain ⟨l, rfl, hl⟩ := hkc_some h hk0
  obtain ⟨t0, r0, rfl, _⟩ := hk_some hl hk0
  rw [Option.bind_some]
  unfold optT
  rw [if_pos hl]; rfl
/-- The columns of a group by, if there is one. -/
def GrpTo (lo : Nat) (s : Option (List ByteArray)) (W : World) (s' : Option (List ByteArray)) (gv : Value) (xs : List Value) : Prop := s' = (s.bind grpT).map (·.1) ∧ W.ownsRow lo 173 1 gv xs.length xs ∧ ∀ r t, s.bind grpT = some (r, t) → Is W lo t xs
theorem grpTo_no {lo : Nat} {s : Option (List ByteArray)} {W : World} (h : hkc s ≠ 17) : GrpTo lo s W s (.slice none 0 0) [] := by
  cases s with
  | none => exact ⟨rfl, World.ownsRow_nil _ _ _ _, fun r t h => by cases h⟩
  | some l =>
    have e : grpT l = some (l, .nil) := by unfold grpT; rw [if_neg (by exact h)]
    refine ⟨by rw [Option.bind_some, e]; rfl, World.ownsRow_nil _ _ _ _, fun r t ht => ?_⟩
    rw [Option.bind_some, e] at ht
    simp only [Option.some.injEq, Prod.mk.injEq] at ht
    rw [← ht.2]; exact .nil
theorem grp_yes {s : Option (List ByteArray)} {N : Nat} (h : hkc s = 17) (hN : ∀ l, s = some l → l.length ≤ N) : s.bind grpT = (tkR 18 (tailc s)).bind (listG (fun _ => colT) (N + 1)) := by
  obtain ⟨l, rfl, hl⟩ := hkc_some h (by decide)
  obtain ⟨t0, r0, rfl, _⟩ := hk_some hl (by decide)
  have hn := hN _ rfl
  rw [Option.bind_some]
  unfold grpT
  rw [if_pos hl]
  show _ = (tkR 18 (some r0)).bind _
  rw [tkR_some, List.tail_cons]
  cases ha : takeT 18 r0 with
  | none => rfl
  | some a =>
    have := takeT_len ha
    rw [List.length_cons] at hn
    simp only [Option.map_some, Option.bind_some]
    exact colsT_fuel _ _ _ (by omega) (by omega)
theorem srcs_yes {s : Option (List ByteArray)} {N : Nat} (hN : ∀ l, s = some l → l.length ≤ N) : s.bind srcsA = s.bind (srcsT (N + 1)) := by
  cases s with
  | none => rfl
  | some l =>
    rw [Option.bind_some, Option.bind_some]
    have := hN l rfl
    exact srcsT_fuel _ _ _ (by omega) (by omega)
end Go.Proofs.YtbkeflgafjnefaaGreatDoor
