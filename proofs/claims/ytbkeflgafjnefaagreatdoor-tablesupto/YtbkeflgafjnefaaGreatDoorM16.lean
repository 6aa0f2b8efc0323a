/- Towards the law of tables: Q7, Q8, Q9, Q10. -/
import Derived.Test.YtbkeflgafjnefaaGreatDoorM15
namespace Go.Proofs.YtbkeflgafjnefaaGreatDoor
open Go.RowKit
open Trib
/-- A part is read well by the function F from these states on. -/
def PartAt (F : Nat) (b : Nat) (v : Value) (ts : List ByteArray) (P : List ByteArray → Option (List ByteArray × Tr)) (c : Option (List ByteArray)) : Prop :=
  ∀ w : World, Rd w b v ts c → Glob w → Calls Tryz.prog F #[.pointer (some ⟨b, 0, none⟩)] w (PartPost w b v ts (c.bind P))
/-- Two parts in brackets, a joint of these kinds between. -/
def pairT (P : List ByteArray → Option (List ByteArray × Tr)) (ks : List Nat) (ts : List ByteArray) : Option (List ByteArray × Tr) :=
  (takeT 4 ts).bind fun a => (P a.2).bind fun x => if inK ks (hk x.1) then (P x.1.tail).bind fun y => (takeT 5 y.1).bind fun z => some (z.2, nodeT (kindsL.getD (hk x.1) 0) (.cons x.2 (.cons y.2 .nil))) else none
theorem exp_tail (ks : List Nat) (h0 : inK ks 0 = false) (c : Option (List ByteArray)) : tailc (expC ks c) = c.bind (fun ts => if inK ks (hk ts) then some ts.tail else none) ∧ (∀ r, tailc (expC ks c) = some r → (headTok (expC ks c)).1 = hkc c ∧ inK ks (hkc c) = true) ∧ ((headTok (expC ks c)).1 = 0 ∨ (headTok (expC ks c)).1 = hkc c ∧ inK ks (hkc c) = true) := by
  unfold expC
  match c with
  | none => rw [show hkc none = 0 from rfl, h0]; exact ⟨rfl, (fun r h => by cases h), Or.inl rfl⟩
  | some [] => rw [show hkc (some []) = 0 from rfl, h0]; exact ⟨by show none = if inK ks 0 then _ else none; rw [h0]; rfl, (fun r h => by cases h), Or.inl rfl⟩
  | some (t :: l) =>
    have e : hkc (some (t :: l)) = hk (t :: l) := rfl
    rw [e, Option.bind_some]
    cases hi : inK ks (hk (t :: l))
    · exact ⟨rfl, (fun r h => by cases h), Or.inl rfl⟩
    · exact ⟨rfl, fun r h => ⟨rfl, rfl⟩, Or.inr ⟨rfl, rfl⟩⟩
theorem Ks.grown {w w' : World} {b : Nat} {v : Value} {ks : List Nat} {cs : Array Value} (h : Ks w v ks) (hb : w.heap[b]? = some (.cells cs 243 (0, 0))) (hg : w.grownBy w' (some b)) : Ks w' v ks :=
  World.ownsRow.kept h hg (row_apart hb h (by decide))
theorem Rd.block {w : World} {b : Nat} {v : Value} {ts : List ByteArray} {c : Option (List ByteArray)} (h : Rd w b v ts c) : ∃ cs, w.heap[b]? = some (.cells cs 243 (0, 0)) := by
  obtain ⟨p, bad, h1, _⟩ := h
  exact ⟨_, h1⟩
theorem ptrs_made (W : World) (lo N : Nat) (hN : W.heap.size = N) (hlo : lo ≤ N) (vs : List Value) (hv : vs.length ≤ 100) : (W.alloc (.cells vs.toArray 173)).ownsRow lo 173 1 (.slice (some ⟨N, 0, none⟩) vs.length vs.length) vs.length vs := by
  subst hN
  refine ⟨by rw [Nat.mul_one], Or.inr ⟨W.heap.size, vs.length, vs.toArray, rfl, hlo, heap_alloc_new W _, Nat.le_refl _, by unfold maxLen; omega, ?_, ?_⟩⟩
  · rw [List.size_toArray, Nat.mul_one]
  · rw [Nat.mul_one]; simp
/-- A node with parts, just made. -/
theorem node_is {W : World} {lo N : Nat} (hN : W.heap.size = N) (hlo : lo ≤ N) {k : Nat} {parts : Tr} {vs : List Value} (hv : vs.length ≤ 100) (h : Is W lo parts vs) :
    Is ((W.alloc (.cells vs.toArray 173)).alloc (.cells #[.int .i64 (k : Int), .string ⟨#[]⟩, .string ⟨#[]⟩, .int .i64 0, .int .i64 0, .string ⟨#[]⟩, .slice (some ⟨N, 0, none⟩) vs.length vs.length, .pointer none, .int .i64 0, .int .i64 0, .int .i64 0] 333)) lo (nodeT k parts) [.pointer (some ⟨N + 1, 0, none⟩)] := by
  have hp := ptrs_made W lo N hN hlo vs hv
  refine .node (vs := vs) (qs := []) (p0 := 0) (p1 := 0) (p2 := 0) (by omega) (new_at _ _ (by simp [hN]) _) (hp.alloc _) ?_ .nil
  exact (h.kept (stays_alloc _ _ _)).kept (stays_alloc _ _ _)
theorem kinds_lt {ks : List Nat} (hks : ∀ k ∈ ks, k < 30) {c : Option (List ByteArray)} (h0 : inK ks 0 = false) : (headTok (expC ks c)).1 < 30 := by
  rcases (exp_tail ks h0 c).2.2 with h | ⟨h, hi⟩
  · rw [h]; decide
  · rw [h]
    exact hks _ (by unfold inK at hi; simpa using hi)
theorem expC_none (ks : List Nat) : expC ks none = none := by unfold expC; split <;> rfl
theorem pair_chain (P : List ByteArray → Option (List ByteArray × Tr)) (ks : List Nat) (h0 : inK ks 0 = false) (c : Option (List ByteArray)) :
    tkR 5 (((tailc (expC ks (((tkR 4 c).bind P).map (·.1)))).bind P).map (·.1)) = (c.bind (pairT P ks)).map (·.1) ∧
    ∀ r t, c.bind (pairT P ks) = some (r, t) → ∃ x y, (tkR 4 c).bind P = some x ∧ (tailc (expC ks (((tkR 4 c).bind P).map (·.1)))).bind P = some y ∧ t = nodeT (kindsL.getD (headTok (expC ks (((tkR 4 c).bind P).map (·.1)))).1 0) (.cons x.2 (.cons y.2 .nil)) := by
  cases c with
  | none => exact ⟨by show tkR 5 (((tailc (expC ks none)).bind P).map _) = none; rw [expC_none]; rfl, fun r t h => by cases h⟩
  | some l =>
    have e4 : tkR 4 (some l) = (takeT 4 l).map (·.2) := rfl
    rw [e4, Option.bind_some]
    unfold pairT
    cases takeT 4 l with
    | none => exact ⟨by show tkR 5 (((tailc (expC ks none)).bind P).map _) = none; rw [expC_none]; rfl, fun r t h => by cases h⟩
    | some a =>
      simp only [Option.map_some, Option.bind_some]
      cases P a.2 with
      | none => exact ⟨by show tkR 5 (((tailc (expC ks none)).bind P).map _) = none; rw [expC_none]; rfl, fun r t h => by cases h⟩
      | some x =>
        simp only [Option.map_some, Option.bind_some]
        obtain ⟨t1, t2, _⟩ := exp_tail ks h0 (some x.1)
        rw [t1] at t2
        rw [t1]
        simp only [Option.bind_some] at t2 ⊢
        cases hi : inK ks (hk x.1)
        · exact ⟨rfl, fun r t h => by cases h⟩
        · rw [hi] at t2
          obtain ⟨t3, _⟩ := t2 x.1.tail rfl
          rw [t3]
          simp only [if_true, Option.bind_some]
          cases P x.1.tail with
          | none => exact ⟨rfl, fun r t h => by cases h⟩
          | some y =>
            simp only [Option.map_some, Option.bind_some]
            have e5 : tkR 5 (some y.1) = (takeT 5 y.1).map (·.2) := rfl
            rw [e5]
            cases takeT 5 y.1 with
            | none => exact ⟨rfl, fun r t h => by cases h⟩
            | some z =>
              refine ⟨rfl, fun r t h => ⟨x, y, rfl, rfl, ?_⟩⟩
              simp only [Option.bind_some, Option.some.injEq, Prod.mk.injEq] at h
              exact h.2.symm
end Go.Proofs.YtbkeflgafjnefaaGreatDoor
namespace Go.Proofs.YtbkeflgafjnefaaGreatDoor
open Go.RowKit
open Trib
set_option maxHeartbeats 8000000 in
set_option maxRecDepth 100000 in
theorem pair_expr (P : List ByteArray → Option (List ByteArray × Tr)) (ks : List Nat) (av : Value) (b : Nat) (v : Value) (ts : List ByteArray) (c : Option (List ByteArray)) (w : World) (h : Rd w b v ts c) (hK : Ks w av ks) (hg : Glob w) (hs : Sm ts) (h8 : 8 ≤ b) (hkl : ks.length ≤ 100) (hks : ∀ k ∈ ks, k < 30) (h0 : inK ks 0 = false)
    (hp1 : PartAt 263 b v ts P (tkR 4 c)) (hp2 : PartAt 263 b v ts P (tailc (expC ks (((tkR 4 c).bind P).map (·.1))))) :
    Calls Tryz.prog 352 #[.pointer (some ⟨b, 0, none⟩), .func (.func 263) #[.pointer (some ⟨b, 0, none⟩)] #[], av] w (PartPost w b v ts (c.bind (pairT P ks))) := by
  obtain ⟨e1, e2⟩ := pair_chain P ks h0 c
  have hk30 := kinds_lt hks (c := ((tkR 4 c).bind P).map (·.1)) h0
  unfold PartPost
  generalize hc1 : tkR 4 c = c1 at e1 e2 hp1 hp2 hk30
  generalize ho1 : c1.bind P = o1 at e1 e2 hp2 hk30
  generalize hT : headTok (expC ks (o1.map (·.1))) = T at e2 hk30
  generalize hc3 : tailc (expC ks (o1.map (·.1))) = c3 at e1 e2 hp2
  generalize ho2 : c3.bind P = o2 at e1 e2
  generalize hc5 : tkR 5 (o2.map (·.1)) = c5 at e1
  rw [← e1]
  have E2 := hide e2
  clear e1 e2
  obtain ⟨Ta, Tb⟩ := T
  simp only at hk30
  have hblt := h.lt
  go_enter Tryz.func352, Tryz.ntmps352
  go_wp2_with fail
  refine (expectE 4 4 rfl (by decide) b v ts c c1 _ rfl hc1 w _ (by simp) h hs.1).mono ?_
  rintro e w1 ⟨rfl, hR1, hg1⟩
  have hs1 := hg1.size
  have G1 := hg.grown hg1 h8
  obtain ⟨cs, hcs⟩ := h.block
  have K1 := hK.grown hcs hg1
  go_wp2_with fail
  refine (hp1 w1 hR1 G1).mono ?_
  rw [ho1]
  rintro e w2 ⟨x1, rfl, hR2, hg2, hI2⟩
  have hs2 := hg2.size
  have G2 := G1.grown hg2 h8
  obtain ⟨cs1, hcs1⟩ := hR1.block
  have K2 := K1.grown hcs1 hg2
  go_wp2_with fail
  refine (expect_any b v ts _ av ks w2 hR2 K2 hs.1 hkl).mono ?_
  rw [hT, hc3]
  rintro e w3 ⟨rfl, hR3, hg3⟩
  have hs3 := hg3.size
  have G3 := (G2.grown hg3 h8)
  simp only [tokV]
  have hR3' := hR3.alloc (.cells #[.int .i64 (Ta : Int), .string Tb] 154)
  have G3' : Glob (w3.alloc (.cells #[.int .i64 (Ta : Int), .string Tb] 154)) := G3.below ((Below.refl w3.heap.size _).alloc (Nat.le_refl _) _) G3.big
  go_wp2_with fail
  refine (hp2 _ hR3' G3').mono ?_
  rw [ho2]
  rintro e w4 ⟨x2, rfl, hR4, hg4, hI4⟩
  have hs4 := hg4.size
  have hblk4 : w4.heap[w3.heap.size]? = some (.cells #[.int .i64 (Ta : Int), .string Tb] 154 (0, 0)) := made_keptP rfl hR3.lt hg4
  have G4 := G3'.grown hg4 h8
  go_wp2_with fail
  refine (expectE 5 5 rfl (by decide) b v ts _ c5 _ rfl hc5 w4 _ (by simp) hR4 hs.1).mono ?_
  rintro e w5 ⟨rfl, hR5, hg5⟩
  have hs5 := hg5.size
  have hblk5 := kept_ne hblk4 hg5 (by omega)
  have G5 := G4.grown hg5 h8
  have d0 := blk_cell hblk5 (i := 0) rfl
  have dk := G5.kinds Ta hk30
  have E3 := E2.out
  clear E2
  generalize kindsL.getD Ta 0 = KK at dk E3
  have E2 := hide E3
  clear E3
  have hG : w.grownBy w5 (some b) := (((hg1.trans hg2).trans hg3).trans ((World.grownBy_alloc w3 _ _).trans hg4)).trans hg5
  have hTa : (Ta : Int) < 30 := by omega
  have hTa0 : (0 : Int) ≤ (Ta : Int) := by omega
  clear hc1 ho1 hT hc3 ho2 hc5
  go_wp2_with fail
  go_ret
  refine ⟨_, rfl, (hR5.alloc _).alloc _, (hG.trans (World.grownBy_alloc w5 _ _)).trans (World.grownBy_alloc _ _ _), fun r t ht => ?_⟩
  obtain ⟨x, y, hx, hy, rfl⟩ := E2.out r t ht
  have hs3' : w3.heap.size ≤ (w3.alloc (.cells #[.int .i64 (Ta : Int), .string Tb] 154)).heap.size := by simp
  have I1 : Is w5 w.heap.size x.2 [.pointer (some ⟨x1, 0, none⟩)] := (((((hI2 x.1 x.2 hx).kept (stays_grown hg3 (by omega))).kept (stays_alloc _ _ _)).kept (stays_grown hg4 (by omega))).kept (stays_grown hg5 (by omega))).low hs1
  have I2 : Is w5 w.heap.size y.2 [.pointer (some ⟨x2, 0, none⟩)] := ((hI4 y.1 y.2 hy).kept (stays_grown hg5 (by omega))).low (by omega)
  exact node_is (vs := [.pointer (some ⟨x1, 0, none⟩), .pointer (some ⟨x2, 0, none⟩)]) rfl (by omega) (by show 2 ≤ 100; omega) (.cons I1 (.cons I2 .nil))
set_option maxHeartbeats 8000000 in
set_option maxRecDepth 100000 in
theorem pair_cond (P : List ByteArray → Option (List ByteArray × Tr)) (ks : List Nat) (av : Value) (b : Nat) (v : Value) (ts : List ByteArray) (c : Option (List ByteArray)) (w : World) (h : Rd w b v ts c) (hK : Ks w av ks) (hg : Glob w) (hs : Sm ts) (h8 : 8 ≤ b) (hkl : ks.length ≤ 100) (hks : ∀ k ∈ ks, k < 30) (h0 : inK ks 0 = false)
    (hp1 : PartAt 266 b v ts P (tkR 4 c)) (hp2 : PartAt 266 b v ts P (tailc (expC ks (((tkR 4 c).bind P).map (·.1))))) :
    Calls Tryz.prog 352 #[.pointer (some ⟨b, 0, none⟩), .func (.func 266) #[.pointer (some ⟨b, 0, none⟩)] #[], av] w (PartPost w b v ts (c.bind (pairT P ks))) := by
  obtain ⟨e1, e2⟩ := pair_chain P ks h0 c
  have hk30 := kinds_lt hks (c := ((tkR 4 c).bind P).map (·.1)) h0
  unfold PartPost
  generalize hc1 : tkR 4 c = c1 at e1 e2 hp1 hp2 hk30
  generalize ho1 : c1.bind P = o1 at e1 e2 hp2 hk30
  generalize hT : headTok (expC ks (o1.map (·.1))) = T at e2 hk30
  generalize hc3 : tailc (expC ks (o1.map (·.1))) = c3 at e1 e2 hp2
  generalize ho2 : c3.bind P = o2 at e1 e2
  generalize hc5 : tkR 5 (o2.map (·.1)) = c5 at e1
  rw [← e1]
  have E2 := hide e2
  clear e1 e2
  obtain ⟨Ta, Tb⟩ := T
  simp only at hk30
  have hblt := h.lt
  go_enter Tryz.func352, Tryz.ntmps352
  go_wp2_with fail
  refine (expectE 4 4 rfl (by decide) b v ts c c1 _ rfl hc1 w _ (by simp) h hs.1).mono ?_
  rintro e w1 ⟨rfl, hR1, hg1⟩
  have hs1 := hg1.size
  have G1 := hg.grown hg1 h8
  obtain ⟨cs, hcs⟩ := h.block
  have K1 := hK.grown hcs hg1
  go_wp2_with fail
  refine (hp1 w1 hR1 G1).mono ?_
  rw [ho1]
  rintro e w2 ⟨x1, rfl, hR2, hg2, hI2⟩
  have hs2 := hg2.size
  have G2 := G1.grown hg2 h8
  obtain ⟨cs1, hcs1⟩ := hR1.block
  have K2 := K1.grown hcs1 hg2
  go_wp2_with fail
  refine (expect_any b v ts _ av ks w2 hR2 K2 hs.1 hkl).mono ?_
  rw [hT, hc3]
  rintro e w3 ⟨rfl, hR3, hg3⟩
  have hs3 := hg3.size
  have G3 := (G2.grown hg3 h8)
  simp only [tokV]
  have hR3' := hR3.alloc (.cells #[.int .i64 (Ta : Int), .string Tb] 154)
  have G3' : Glob (w3.alloc (.cells #[.int .i64 (Ta : Int), .string Tb] 154)) := G3.below ((Below.refl w3.heap.size _).alloc (Nat.le_refl _) _) G3.big
  go_wp2_with fail
  refine (hp2 _ hR3' G3').mono ?_
  rw [ho2]
  rintro e w4 ⟨x2, rfl, hR4, hg4, hI4⟩
  have hs4 := hg4.size
  have hblk4 : w4.heap[w3.heap.size]? = some (.cells #[.int .i64 (Ta : Int), .string Tb] 154 (0, 0)) := made_keptP rfl hR3.lt hg4
  have G4 := G3'.grown hg4 h8
  go_wp2_with fail
  refine (expectE 5 5 rfl (by decide) b v ts _ c5 _ rfl hc5 w4 _ (by simp) hR4 hs.1).mono ?_
  rintro e w5 ⟨rfl, hR5, hg5⟩
  have hs5 := hg5.size
  have hblk5 := kept_ne hblk4 hg5 (by omega)
  have G5 := G4.grown hg5 h8
  have d0 := blk_cell hblk5 (i := 0) rfl
  have dk := G5.kinds Ta hk30
  have E3 := E2.out
  clear E2
  generalize kindsL.getD Ta 0 = KK at dk E3
  have E2 := hide E3
  clear E3
  have hG : w.grownBy w5 (some b) := (((hg1.trans hg2).trans hg3).trans ((World.grownBy_alloc w3 _ _).trans hg4)).trans hg5
  have hTa : (Ta : Int) < 30 := by omega
  have hTa0 : (0 : Int) ≤ (Ta : Int) := by omega
  clear hc1 ho1 hT hc3 ho2 hc5
  go_wp2_with fail
  go_ret
  refine ⟨_, rfl, (hR5.alloc _).alloc _, (hG.trans (World.grownBy_alloc w5 _ _)).trans (World.grownBy_alloc _ _ _), fun r t ht => ?_⟩
  obtain ⟨x, y, hx, hy, rfl⟩ := E2.out r t ht
  have hs3' : w3.heap.size ≤ (w3.alloc (.cells #[.int .i64 (Ta : Int), .string Tb] 154)).heap.size := by simp
  have I1 : Is w5 w.heap.size x.2 [.pointer (some ⟨x1, 0, none⟩)] := (((((hI2 x.1 x.2 hx).kept (stays_grown hg3 (by omega))).kept (stays_alloc _ _ _)).kept (stays_grown hg4 (by omega))).kept (stays_grown hg5 (by omega))).low hs1
  have I2 : Is w5 w.heap.size y.2 [.pointer (some ⟨x2, 0, none⟩)] := ((hI4 y.1 y.2 hy).kept (stays_grown hg5 (by omega))).low (by omega)
  exact node_is (vs := [.pointer (some ⟨x1, 0, none⟩), .pointer (some ⟨x2, 0, none⟩)]) rfl (by omega) (by show 2 ≤ 100; omega) (.cons I1 (.cons I2 .nil))
end Go.Proofs.YtbkeflgafjnefaaGreatDoor
namespace Go.Proofs.YtbkeflgafjnefaaGreatDoor
open Go.RowKit
open Trib
/-- An aggregate, the kind of its token at hand. -/
def aggT (P : List ByteArray → Option (List ByteArray × Tr)) (ts : List ByteArray) : Option (List ByteArray × Tr) :=
  (takeT 4 ts.tail).bind fun a => if hk ts = 26 ∧ hk a.2 = 13 then (takeT 5 a.2.tail).bind fun z => some (z.2, nodeT 7 .nil)
        else (P a.2).bind fun x => (takeT 5 x.1).bind fun z => some (z.2, nodeT (kindsL.getD (hk ts) 0) (.cons x.2 .nil))
theorem hk_some {l : List ByteArray} {k : Nat} (h : hk l = k) (hk0 : k ≠ 0) : ∃ t r, l = t :: r ∧ kd t = k := by
  cases l with
  | nil => exact absurd h (by rw [show hk [] = 0 from rfl]; omega)
  | cons t r => exact ⟨t, r, rfl, h⟩
theorem tkR_some (k : Nat) (l : List ByteArray) : tkR k (some l) = (takeT k l).map (·.2) := rfl
/-- count(*). -/
theorem agg_star {P : List ByteArray → Option (List ByteArray × Tr)} {l : List ByteArray} {c2 : List ByteArray} (h26 : hk l = 26) (h2 : tkR 4 (some l.tail) = some c2) (h13 : hk c2 = 13) :
    tkR 5 (some c2.tail) = (aggT P l).map (·.1) ∧ ∀ r t, aggT P l = some (r, t) → t = nodeT 7 .nil := by
  rw [tkR_some] at h2
  obtain ⟨a, ha, rfl⟩ := Option.map_eq_some_iff.1 h2
  unfold aggT
  rw [ha, Option.bind_some, if_pos ⟨h26, h13⟩, tkR_some]
  cases takeT 5 a.2.tail with
  | none => exact ⟨rfl, fun r t h => by cases h⟩
  | some z =>
    refine ⟨rfl, fun r t h => ?_⟩
    simp only [Option.bind_some, Option.some.injEq, Prod.mk.injEq] at h
    exact h.2.symm
/-- An aggregate of an expr. -/
theorem agg_expr {P : List ByteArray → Option (List ByteArray × Tr)} {l : List ByteArray} (hno : ∀ c2, tkR 4 (some l.tail) = some c2 → ¬ (hk l = 26 ∧ hk c2 = 13)) :
    tkR 5 (((tkR 4 (some l.tail)).bind P).map (·.1)) = (aggT P l).map (·.1) ∧ ∀ r t, aggT P l = some (r, t) → ∃ x, (tkR 4 (some l.tail)).bind P = some x ∧ t = nodeT (kindsL.getD (hk l) 0) (.cons x.2 .nil) := by
  unfold aggT
  rw [tkR_some] at hno ⊢
  cases ha : takeT 4 l.tail with
  | none => exact ⟨rfl, fun r t h => by cases h⟩
  | some a =>
    rw [ha] at hno
    simp only [Option.map_some, Option.bind_some]
    rw [if_neg (hno a.2 rfl)]
    cases P a.2 with
    | none => exact ⟨rfl, fun r t h => by cases h⟩
    | some x =>
      simp only [Option.map_some, Option.bind_some]
      rw [tkR_some]
      cases takeT 5 x.1 with
      | none => exact ⟨rfl, fun r t h => by cases h⟩
      | some z =>
        refine ⟨rfl, fun r t h => ⟨x, rfl, ?_⟩⟩
        simp only [Option.bind_some, Option.some.injEq, Prod.mk.injEq] at h
        exact h.2.symm
theorem kindsL_agg : ∀ k, 26 ≤ k → k ≤ 29 → kindsL.getD k 0 = k - 18 := by
  intro k h1 h2
  have : k = 26 ∨ k = 27 ∨ k = 28 ∨ k = 29 := by omega
  rcases this with rfl | rfl | rfl | rfl <;> rfl
end Go.Proofs.YtbkeflgafjnefaaGreatDoor
namespace Go.Proofs.YtbkeflgafjnefaaGreatDoor
open Go.RowKit
open Trib
theorem Rd.setNode {w : World} {b : Nat} {v : Value} {ts : List ByteArray} {c : Option (List ByteArray)} (h : Rd w b v ts c) {N o : Nat} {cs : Array Value} (hN : w.heap[N]? = some (.cells cs 333 (0, 0))) (x : Value) : Rd (w.setCell ⟨N, o, none⟩ x) b v ts c := h.set x hN (by decide) (by decide)
theorem grown_set_kept {w W : World} {r : Option Nat} (h : w.grownBy W r) {c : Nat} (hc : w.heap.size ≤ c) (o : Nat) (x : Value) : w.grownBy (W.setCell ⟨c, o, none⟩ x) r := grown_set_new h hc o x
set_option maxHeartbeats 8000000 in
set_option maxRecDepth 100000 in
theorem agg_A (P : List ByteArray → Option (List ByteArray × Tr)) (b : Nat) (v : Value) (ts : List ByteArray) (l : List ByteArray) (w : World) (h : Rd w b v ts (some l)) (hg : Glob w) (hs : Sm ts) (h8 : 8 ≤ b) (hk1 : 26 ≤ hk l) (hk2 : hk l ≤ 29) (hne : hk l ≠ 26) (hp : PartAt 263 b v ts P (tkR 4 (some l.tail))) :
    Calls Tryz.prog 353 #[.pointer (some ⟨b, 0, none⟩)] w (PartPost w b v ts (aggT P l)) := by
  obtain ⟨e1, e2⟩ := agg_expr (P := P) (l := l) (fun c2 _ e => hne e.1)
  generalize hc2 : tkR 4 (some l.tail) = c2 at e1 e2 hp
  generalize ho3 : c2.bind P = o3 at e1 e2
  generalize hc5 : tkR 5 (o3.map (·.1)) = c5 at e1
  obtain ⟨t0, r0, rfl, hkd0⟩ := hk_some (l := l) rfl (by omega)
  have hT : headTok (some (t0 :: r0)) = (hk (t0 :: r0), t0) := rfl
  have hc1 : tailc (some (t0 :: r0)) = some r0 := rfl
  simp only [List.tail_cons] at hc2
  unfold PartPost
  rw [← e1]
  have hKK := kindsL_agg (hk (t0 :: r0)) hk1 hk2
  generalize hK0 : hk (t0 :: r0) = K0 at *
  generalize hdk : kindsL.getD K0 0 = KK at *
  have E2 := hide e2
  have HKK := hide hKK
  clear e1 e2 hkd0 hKK
  have hblt := h.lt
  have hk30 : K0 < 30 := by omega
  have hK1 : (K0 : Int) < 30 := by omega
  have hK2 : (0 : Int) ≤ (K0 : Int) := by omega
  go_enter Tryz.func353, Tryz.ntmps353
  go_wp2_with fail
  refine (take_any b v ts _ w h hs.1).mono ?_
  rw [hT, hc1]
  rintro e w1 ⟨rfl, hR1, hg1⟩
  have hs1 := hg1.size
  have G1 := hg.grown hg1 h8
  have dk := G1.kinds K0 hk30
  have hfld := tokField0 K0 t0 w1
  simp only [tokV]
  have dk' : w1.cell? ⟨2, K0, none⟩ = some (.int .i64 (KK : Int)) := by rw [dk, hdk]
  clear dk hT hc1 hdk
  have hR1' := hR1.alloc (.cells #[.int .i64 (KK : Int), .string ⟨#[]⟩, .string ⟨#[]⟩, .int .i64 0, .int .i64 0, .string ⟨#[]⟩, .slice none 0 0, .pointer none, .int .i64 0, .int .i64 0, .int .i64 0] 333)
  go_wp2_with fail
  refine (expectE 4 4 rfl (by decide) b v ts (some r0) c2 _ rfl hc2 _ _ (by simp) hR1' hs.1).mono ?_
  rintro e w2 ⟨rfl, hR2, hg2⟩
  have hs2 : w1.heap.size + 1 ≤ w2.heap.size := by have := hg2.size; simpa using this
  have hN2 : w2.heap[w1.heap.size]? = some (.cells #[.int .i64 (KK : Int), .string ⟨#[]⟩, .string ⟨#[]⟩, .int .i64 0, .int .i64 0, .string ⟨#[]⟩, .slice none 0 0, .pointer none, .int .i64 0, .int .i64 0, .int .i64 0] 333 (0, 0)) := made_keptP rfl hR1.lt hg2
  have G1' : Glob (w1.alloc (.cells #[.int .i64 (KK : Int), .string ⟨#[]⟩, .string ⟨#[]⟩, .int .i64 0, .int .i64 0, .string ⟨#[]⟩, .slice none 0 0, .pointer none, .int .i64 0, .int .i64 0, .int .i64 0] 333)) := G1.below ((Below.refl w1.heap.size _).alloc (Nat.le_refl _) _) G1.big
  have G2 := G1'.grown hg2 h8
  have n0 := blk_cell hN2 (i := 0) rfl
  have hkb : ((KK : Int) == 8) = false := by rw [beq_eq_false_iff_ne]; have := HKK.out; omega
  go_wp2_with fail
  refine (hp w2 hR2 G2).mono ?_
  rw [ho3]
  rintro e w4 ⟨x1, rfl, hR4, hg4, hI4⟩
  have hs4 := hg4.size
  have hN4 := kept_ne hN2 hg4 (by omega)
  have f6 := blk_free (i := 6) (blk_alloc hN4 (.cells #[.pointer (some ⟨x1, 0, none⟩)] 173))
  have n6 := blk_cell (blk_alloc hN4 (.cells #[.pointer (some ⟨x1, 0, none⟩)] 173)) (i := 6) rfl
  have hN4a := blk_alloc hN4 (.cells #[.pointer (some ⟨x1, 0, none⟩)] 173)
  have hR4' : Rd ((w4.alloc (.cells #[.pointer (some ⟨x1, 0, none⟩)] 173)).setCell ⟨w1.heap.size, 6, none⟩ (.slice (some ⟨w4.heap.size, 0, none⟩) 1 1)) b v ts (o3.map (·.1)) := (hR4.alloc _).setNode hN4a _
  have hN4' : ((w4.alloc (.cells #[.pointer (some ⟨x1, 0, none⟩)] 173)).setCell ⟨w1.heap.size, 6, none⟩ (.slice (some ⟨w4.heap.size, 0, none⟩) 1 1)).heap[w1.heap.size]? = some (.cells #[.int .i64 (KK : Int), .string ⟨#[]⟩, .string ⟨#[]⟩, .int .i64 0, .int .i64 0, .string ⟨#[]⟩, .slice (some ⟨w4.heap.size, 0, none⟩) 1 1, .pointer none, .int .i64 0, .int .i64 0, .int .i64 0] 333 (0, 0)) := heap_setCell hN4a _
  have hz4 : ((w4.alloc (.cells #[.pointer (some ⟨x1, 0, none⟩)] 173)).setCell ⟨w1.heap.size, 6, none⟩ (.slice (some ⟨w4.heap.size, 0, none⟩) 1 1)).heap.size = w4.heap.size + 1 := by show (Array.modify _ _ _).size = _; rw [Array.size_modify]; simp
  go_wp2_with fail
  refine (expectE 5 5 rfl (by decide) b v ts _ c5 _ rfl hc5 _ _ hz4 hR4' hs.1).mono ?_
  rintro e w5 ⟨rfl, hR5, hg5⟩
  have hs5 := hg5.size
  have hN5 := kept_ne hN4' hg5 (by omega)
  have hG4 : w.grownBy w4 (some b) := ((hg1.trans ((World.grownBy_alloc w1 _ _).trans hg2))).trans hg4
  have hG : w.grownBy w5 (some b) := (grown_set_kept (hG4.trans (World.grownBy_alloc w4 _ _)) hs1 6 _).trans hg5
  clear hc2 ho3 hc5 hK0
  go_wp2_with fail
  go_ret
  refine ⟨_, rfl, hR5, hG, fun r t ht => ?_⟩
  obtain ⟨x, hx, rfl⟩ := E2.out r t ht
  have hrow5 : w5.ownsRow w.heap.size 173 1 (.slice (some ⟨w4.heap.size, 0, none⟩) 1 1) 1 [.pointer (some ⟨x1, 0, none⟩)] :=
    (stays_grown hg5 hblt).row (row_setP (ptrs_made w4 w.heap.size w4.heap.size rfl (by have := hG4.size; omega) [.pointer (some ⟨x1, 0, none⟩)] (by show 1 ≤ 100; omega)) hN4a (by decide))
  have hx4 := (hI4 x.1 x.2 hx)
  have hI5 : Is w5 w.heap.size x.2 [.pointer (some ⟨x1, 0, none⟩)] := (((hx4.kept (stays_alloc _ _ _)).kept (stays_set _ _ (by omega))).kept (stays_grown hg5 (by omega))).low (by omega)
  exact .node (vs := [.pointer (some ⟨x1, 0, none⟩)]) (qs := []) (val := Vl.zero) (p0 := 0) (p1 := 0) (p2 := 0) hs1 hN5 hrow5 (.cons hI5 .nil) .nil
set_option maxHeartbeats 8000000 in
set_option maxRecDepth 100000 in
theorem agg_C (P : List ByteArray → Option (List ByteArray × Tr)) (b : Nat) (v : Value) (ts : List ByteArray) (l : List ByteArray) (w : World) (h : Rd w b v ts (some l)) (hg : Glob w) (hs : Sm ts) (h8 : 8 ≤ b) (hk1 : 26 ≤ hk l) (hk2 : hk l ≤ 29) (he : hk l = 26) (hn13 : hkc (tkR 4 (some l.tail)) ≠ 13) (hp : PartAt 263 b v ts P (tkR 4 (some l.tail))) :
    Calls Tryz.prog 353 #[.pointer (some ⟨b, 0, none⟩)] w (PartPost w b v ts (aggT P l)) := by
  obtain ⟨e1, e2⟩ := agg_expr (P := P) (l := l) (fun c2 h2 e => hn13 (by rw [h2]; exact e.2))
  generalize hc2 : tkR 4 (some l.tail) = c2 at e1 e2 hp hn13
  generalize ho3 : c2.bind P = o3 at e1 e2
  generalize hc5 : tkR 5 (o3.map (·.1)) = c5 at e1
  obtain ⟨t0, r0, rfl, hkd0⟩ := hk_some (l := l) rfl (by omega)
  have hT : headTok (some (t0 :: r0)) = (hk (t0 :: r0), t0) := rfl
  have hc1 : tailc (some (t0 :: r0)) = some r0 := rfl
  simp only [List.tail_cons] at hc2
  unfold PartPost
  rw [← e1]
  have hKK := kindsL_agg (hk (t0 :: r0)) hk1 hk2
  generalize hK0 : hk (t0 :: r0) = K0 at *
  generalize hdk : kindsL.getD K0 0 = KK at *
  have E2 := hide e2
  have HKK := hide hKK
  have HEE := hide he
  clear e1 e2 hkd0 hKK he
  have hblt := h.lt
  have hk30 : K0 < 30 := by omega
  have hK1 : (K0 : Int) < 30 := by omega
  have hK2 : (0 : Int) ≤ (K0 : Int) := by omega
  go_enter Tryz.func353, Tryz.ntmps353
  go_wp2_with fail
  refine (take_any b v ts _ w h hs.1).mono ?_
  rw [hT, hc1]
  rintro e w1 ⟨rfl, hR1, hg1⟩
  have hs1 := hg1.size
  have G1 := hg.grown hg1 h8
  have dk := G1.kinds K0 hk30
  have hfld := tokField0 K0 t0 w1
  simp only [tokV]
  have dk' : w1.cell? ⟨2, K0, none⟩ = some (.int .i64 (KK : Int)) := by rw [dk, hdk]
  clear dk hT hc1 hdk
  have hR1' := hR1.alloc (.cells #[.int .i64 (KK : Int), .string ⟨#[]⟩, .string ⟨#[]⟩, .int .i64 0, .int .i64 0, .string ⟨#[]⟩, .slice none 0 0, .pointer none, .int .i64 0, .int .i64 0, .int .i64 0] 333)
  go_wp2_with fail
  refine (expectE 4 4 rfl (by decide) b v ts (some r0) c2 _ rfl hc2 _ _ (by simp) hR1' hs.1).mono ?_
  rintro e w2 ⟨rfl, hR2, hg2⟩
  have hs2 : w1.heap.size + 1 ≤ w2.heap.size := by have := hg2.size; simpa using this
  have hN2 : w2.heap[w1.heap.size]? = some (.cells #[.int .i64 (KK : Int), .string ⟨#[]⟩, .string ⟨#[]⟩, .int .i64 0, .int .i64 0, .string ⟨#[]⟩, .slice none 0 0, .pointer none, .int .i64 0, .int .i64 0, .int .i64 0] 333 (0, 0)) := made_keptP rfl hR1.lt hg2
  have G1' : Glob (w1.alloc (.cells #[.int .i64 (KK : Int), .string ⟨#[]⟩, .string ⟨#[]⟩, .int .i64 0, .int .i64 0, .string ⟨#[]⟩, .slice none 0 0, .pointer none, .int .i64 0, .int .i64 0, .int .i64 0] 333)) := G1.below ((Below.refl w1.heap.size _).alloc (Nat.le_refl _) _) G1.big
  have G2 := G1'.grown hg2 h8
  have n0 := blk_cell hN2 (i := 0) rfl
  have hkb : ((KK : Int) == 8) = true := by rw [beq_iff_eq]; have := HKK.out; have := HEE.out; omega
  go_wp2_with fail
  refine (accept_any b v ts c2 13 w2 hR2 hs.1).mono ?_
  have ha : accC 13 c2 = c2 := by unfold accC; rw [if_neg hn13]
  rw [ha, decide_eq_false hn13]
  rintro e w3 ⟨rfl, hR3, hg3⟩
  have hs3 := hg3.size
  have hN3 := kept_ne hN2 hg3 (by omega)
  have G3 := G2.grown hg3 h8
  clear ha
  go_wp2_with fail
  refine (hp w3 hR3 G3).mono ?_
  rw [ho3]
  rintro e w4 ⟨x1, rfl, hR4, hg4, hI4⟩
  have hs4 := hg4.size
  have hN4 := kept_ne hN3 hg4 (by omega)
  have f6 := blk_free (i := 6) (blk_alloc hN4 (.cells #[.pointer (some ⟨x1, 0, none⟩)] 173))
  have n6 := blk_cell (blk_alloc hN4 (.cells #[.pointer (some ⟨x1, 0, none⟩)] 173)) (i := 6) rfl
  have hN4a := blk_alloc hN4 (.cells #[.pointer (some ⟨x1, 0, none⟩)] 173)
  have hR4' : Rd ((w4.alloc (.cells #[.pointer (some ⟨x1, 0, none⟩)] 173)).setCell ⟨w1.heap.size, 6, none⟩ (.slice (some ⟨w4.heap.size, 0, none⟩) 1 1)) b v ts (o3.map (·.1)) := (hR4.alloc _).setNode hN4a _
  have hN4' : ((w4.alloc (.cells #[.pointer (some ⟨x1, 0, none⟩)] 173)).setCell ⟨w1.heap.size, 6, none⟩ (.slice (some ⟨w4.heap.size, 0, none⟩) 1 1)).heap[w1.heap.size]? = some (.cells #[.int .i64 (KK : Int), .string ⟨#[]⟩, .string ⟨#[]⟩, .int .i64 0, .int .i64 0, .string ⟨#[]⟩, .slice (some ⟨w4.heap.size, 0, none⟩) 1 1, .pointer none, .int .i64 0, .int .i64 0, .int .i64 0] 333 (0, 0)) := heap_setCell hN4a _
  have hz4 : ((w4.alloc (.cells #[.pointer (some ⟨x1, 0, none⟩)] 173)).setCell ⟨w1.heap.size, 6, none⟩ (.slice (some ⟨w4.heap.size, 0, none⟩) 1 1)).heap.size = w4.heap.size + 1 := by show (Array.modify _ _ _).size = _; rw [Array.size_modify]; simp
  go_wp2_with fail
  refine (expectE 5 5 rfl (by decide) b v ts _ c5 _ rfl hc5 _ _ hz4 hR4' hs.1).mono ?_
  rintro e w5 ⟨rfl, hR5, hg5⟩
  have hs5 := hg5.size
  have hN5 := kept_ne hN4' hg5 (by omega)
  have hG4 : w.grownBy w4 (some b) := ((hg1.trans ((World.grownBy_alloc w1 _ _).trans hg2)).trans hg3).trans hg4
  have hG : w.grownBy w5 (some b) := (grown_set_kept (hG4.trans (World.grownBy_alloc w4 _ _)) hs1 6 _).trans hg5
  clear hc2 ho3 hc5 hK0
  go_wp2_with fail
  go_ret
  refine ⟨_, rfl, hR5, hG, fun r t ht => ?_⟩
  obtain ⟨x, hx, rfl⟩ := E2.out r t ht
  have hrow5 : w5.ownsRow w.heap.size 173 1 (.slice (some ⟨w4.heap.size, 0, none⟩) 1 1) 1 [.pointer (some ⟨x1, 0, none⟩)] :=
    (stays_grown hg5 hblt).row (row_setP (ptrs_made w4 w.heap.size w4.heap.size rfl (by have := hG4.size; omega) [.pointer (some ⟨x1, 0, none⟩)] (by show 1 ≤ 100; omega)) hN4a (by decide))
  have hx4 := (hI4 x.1 x.2 hx)
  have hI5 : Is w5 w.heap.size x.2 [.pointer (some ⟨x1, 0, none⟩)] := (((hx4.kept (stays_alloc _ _ _)).kept (stays_set _ _ (by omega))).kept (stays_grown hg5 (by omega))).low (by omega)
  exact .node (vs := [.pointer (some ⟨x1, 0, none⟩)]) (qs := []) (val := Vl.zero) (p0 := 0) (p1 := 0) (p2 := 0) hs1 hN5 hrow5 (.cons hI5 .nil) .nil
set_option maxHeartbeats 8000000 in
set_option maxRecDepth 100000 in
theorem agg_B (P : List ByteArray → Option (List ByteArray × Tr)) (b : Nat) (v : Value) (ts : List ByteArray) (l : List ByteArray) (w : World) (h : Rd w b v ts (some l)) (hg : Glob w) (hs : Sm ts) (h8 : 8 ≤ b) (hk1 : 26 ≤ hk l) (hk2 : hk l ≤ 29) (he : hk l = 26) (c2' : List ByteArray) (h2' : tkR 4 (some l.tail) = some c2') (h13 : hk c2' = 13) :
    Calls Tryz.prog 353 #[.pointer (some ⟨b, 0, none⟩)] w (PartPost w b v ts (aggT P l)) := by
  obtain ⟨e1, e2⟩ := agg_star (P := P) he h2' h13
  have h2'' := h2'
  generalize hc2 : tkR 4 (some l.tail) = c2 at h2' h2''
  subst h2'
  generalize hc5 : tkR 5 (some c2'.tail) = c5 at e1
  obtain ⟨t0, r0, rfl, hkd0⟩ := hk_some (l := l) rfl (by omega)
  have hT : headTok (some (t0 :: r0)) = (hk (t0 :: r0), t0) := rfl
  have hc1 : tailc (some (t0 :: r0)) = some r0 := rfl
  simp only [List.tail_cons] at hc2
  unfold PartPost
  rw [← e1]
  have hKK := kindsL_agg (hk (t0 :: r0)) hk1 hk2
  generalize hK0 : hk (t0 :: r0) = K0 at *
  generalize hdk : kindsL.getD K0 0 = KK at *
  have E2 := hide e2
  have HKK := hide hKK
  have HEE := hide he
  clear e1 e2 hkd0 hKK he
  have hblt := h.lt
  have hk30 : K0 < 30 := by omega
  have hK1 : (K0 : Int) < 30 := by omega
  have hK2 : (0 : Int) ≤ (K0 : Int) := by omega
  go_enter Tryz.func353, Tryz.ntmps353
  go_wp2_with fail
  refine (take_any b v ts _ w h hs.1).mono ?_
  rw [hT, hc1]
  rintro e w1 ⟨rfl, hR1, hg1⟩
  have hs1 := hg1.size
  have G1 := hg.grown hg1 h8
  have dk := G1.kinds K0 hk30
  have hfld := tokField0 K0 t0 w1
  simp only [tokV]
  have dk' : w1.cell? ⟨2, K0, none⟩ = some (.int .i64 (KK : Int)) := by rw [dk, hdk]
  clear dk hT hc1 hdk
  have hR1' := hR1.alloc (.cells #[.int .i64 (KK : Int), .string ⟨#[]⟩, .string ⟨#[]⟩, .int .i64 0, .int .i64 0, .string ⟨#[]⟩, .slice none 0 0, .pointer none, .int .i64 0, .int .i64 0, .int .i64 0] 333)
  go_wp2_with fail
  refine (expectE 4 4 rfl (by decide) b v ts (some r0) (some c2') _ rfl hc2 _ _ (by simp) hR1' hs.1).mono ?_
  rintro e w2 ⟨rfl, hR2, hg2⟩
  have hs2 : w1.heap.size + 1 ≤ w2.heap.size := by have := hg2.size; simpa using this
  have hN2 : w2.heap[w1.heap.size]? = some (.cells #[.int .i64 (KK : Int), .string ⟨#[]⟩, .string ⟨#[]⟩, .int .i64 0, .int .i64 0, .string ⟨#[]⟩, .slice none 0 0, .pointer none, .int .i64 0, .int .i64 0, .int .i64 0] 333 (0, 0)) := made_keptP rfl hR1.lt hg2
  have G1' : Glob (w1.alloc (.cells #[.int .i64 (KK : Int), .string ⟨#[]⟩, .string ⟨#[]⟩, .int .i64 0, .int .i64 0, .string ⟨#[]⟩, .slice none 0 0, .pointer none, .int .i64 0, .int .i64 0, .int .i64 0] 333)) := G1.below ((Below.refl w1.heap.size _).alloc (Nat.le_refl _) _) G1.big
  have G2 := G1'.grown hg2 h8
  have n0 := blk_cell hN2 (i := 0) rfl
  have hkb : ((KK : Int) == 8) = true := by rw [beq_iff_eq]; have := HKK.out; have := HEE.out; omega
  go_wp2_with fail
  refine (accept_any b v ts (some c2') 13 w2 hR2 hs.1).mono ?_
  have hn13 : hkc (some c2') = 13 := h13
  have ha : accC 13 (some c2') = some c2'.tail := by
    obtain ⟨t1, r1, rfl, _⟩ := hk_some h13 (by decide)
    unfold accC; rw [if_pos hn13]; rfl
  rw [ha, decide_eq_true hn13]
  rintro e w3 ⟨rfl, hR3, hg3⟩
  have hs3 := hg3.size
  have hN3 := kept_ne hN2 hg3 (by omega)
  have f0 := blk_free (i := 0) hN3
  have n3 := blk_cell hN3 (i := 0) rfl
  have hR3' : Rd (w3.setCell ⟨w1.heap.size, 0, none⟩ (.int .i64 7)) b v ts (some c2'.tail) := hR3.setNode hN3 _
  have hN3' : (w3.setCell ⟨w1.heap.size, 0, none⟩ (.int .i64 7)).heap[w1.heap.size]? = some (.cells #[.int .i64 7, .string ⟨#[]⟩, .string ⟨#[]⟩, .int .i64 0, .int .i64 0, .string ⟨#[]⟩, .slice none 0 0, .pointer none, .int .i64 0, .int .i64 0, .int .i64 0] 333 (0, 0)) := heap_setCell hN3 _
  clear ha hn13
  go_wp2_with fail
  refine (expectE 5 5 rfl (by decide) b v ts _ c5 _ rfl hc5 _ _ (by simp) hR3' hs.1).mono ?_
  rintro e w5 ⟨rfl, hR5, hg5⟩
  have hs5 := hg5.size
  have hN5 := kept_ne hN3' hg5 (by omega)
  have hG3 : w.grownBy w3 (some b) := (hg1.trans ((World.grownBy_alloc w1 _ _).trans hg2)).trans hg3
  have hG : w.grownBy w5 (some b) := (grown_set_kept hG3 hs1 0 _).trans hg5
  clear hc2 hc5 hK0
  go_wp2_with fail
  go_ret
  refine ⟨_, rfl, hR5, hG, fun r t ht => ?_⟩
  rw [E2.out r t ht]
  exact leaf_is (k := 7) (val := Vl.zero) hs1 hN5
end Go.Proofs.YtbkeflgafjnefaaGreatDoor
