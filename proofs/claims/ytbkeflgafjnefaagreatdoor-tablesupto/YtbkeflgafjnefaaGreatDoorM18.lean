/- Towards the law of tables: Q11, Q12, Q13, Q14, Q15. -/
import Derived.Test.YtbkeflgafjnefaaGreatDoorM16
import Derived.Test.YtbkeflgafjnefaaGreatDoorM17
namespace Go.Proofs.YtbkeflgafjnefaaGreatDoor
open Go.RowKit
open Trib
/-- There is room for what is left of the tokens. -/
def Room (f m : Nat) (c : Option (List ByteArray)) : Prop := ∀ r, c = some r → 8 * r.length + m ≤ f
theorem CT_le {f tag : Nat} {l : List ByteArray} {x : List ByteArray × Tr} (h : CT f tag l = some x) : x.1.length ≤ l.length := by
  have h1 := CT_er f tag l
  rw [h] at h1
  obtain ⟨seg, e, _⟩ := C_piece _ _ _ _ h1
  have := congrArg List.length e
  simp only [er, List.length_map, List.length_append] at this
  omega
theorem takeT_len {k : Nat} {l : List ByteArray} {x : ByteArray × List ByteArray} (h : takeT k l = some x) : l.length = x.2.length + 1 := by
  match l, h with
  | t :: r, h =>
    rw [takeT] at h
    split at h
    · obtain rfl := Option.some.inj h; rfl
    · cases h
theorem room_tkR {f m k : Nat} {l : List ByteArray} (h : 8 * l.length + m ≤ f + 8) : Room f m (tkR k (some l)) := by
  intro r hr
  rw [tkR_some] at hr
  obtain ⟨a, ha, rfl⟩ := Option.map_eq_some_iff.1 hr
  have := takeT_len ha
  omega
theorem PartPost.undrew {w w' : World} {b : Nat} {v : Value} {ts : List ByteArray} {o : Option (List ByteArray × Tr)} {e : Ending} {n : Nat} (h : PartPost (w.drewN n) b v ts o e w') : PartPost w b v ts o e w' := by
  obtain ⟨x, h1, h2, h3, h4⟩ := h
  exact ⟨x, h1, h2, (grownBy_drewN w n _).trans h3, h4⟩
theorem PartPost.unalloc {w w' : World} {b : Nat} {v : Value} {ts : List ByteArray} {o : Option (List ByteArray × Tr)} {e : Ending} {ob : Obj} (h : PartPost (w.alloc ob) b v ts o e w') : PartPost w b v ts o e w' := by
  obtain ⟨x, h1, h2, h3, h4⟩ := h
  exact ⟨x, h1, h2, (World.grownBy_alloc w ob _).trans h3, fun r t ht => (h4 r t ht).low (by simp)⟩
theorem hkc_some {c : Option (List ByteArray)} {k : Nat} (h : hkc c = k) (hk0 : k ≠ 0) : ∃ l, c = some l ∧ hk l = k := by
  cases c with
  | none => exact absurd h (by rw [show hkc none = 0 from rfl]; omega)
  | some l => exact ⟨l, rfl, h⟩
theorem ct_now {f : Nat} {l : List ByteArray} (h : hk l = 30) : CT (f + 1) 0 l = some (l.tail, nodeT 3 .nil) := by rw [CT, if_neg (by omega), if_pos h]
theorem ct_col {f : Nat} {l : List ByteArray} (h : hk l = 1) : CT (f + 1) 0 l = colT l := by rw [CT, if_pos h]
theorem inK3 (k : Nat) : inK [11, 12, 13] k = decide (k = 11 ∨ k = 12 ∨ k = 13) := by
  unfold inK
  by_cases h2 : k = 11
  · subst h2; rfl
  · by_cases h3 : k = 12
    · subst h3; rfl
    · by_cases h4 : k = 13
      · subst h4; rfl
      · simp [h2, h3, h4]
theorem ct_pair {f : Nat} {l : List ByteArray} (h : hk l = 4) : CT (f + 1) 0 l = pairT (CT f 0) [11, 12, 13] l := by
  obtain ⟨t, r, rfl, hkt⟩ := hk_some h (by decide)
  rw [CT, if_neg (by omega), if_neg (by omega), if_pos h, pairT, takeT, if_pos hkt, Option.bind_some]
  show (CT f 0 r).bind _ = (CT f 0 r).bind _
  congr 1
  funext x
  rw [inK3]
  by_cases hx : hk x.1 = 11 ∨ hk x.1 = 12 ∨ hk x.1 = 13
  · rw [if_pos hx, if_pos (decide_eq_true hx)]
  · rw [if_neg hx, if_neg (by simpa using hx)]
theorem ct_agg {f : Nat} {l : List ByteArray} (h1 : 26 ≤ hk l) (h2 : hk l ≤ 29) : CT (f + 1) 0 l = aggT (CT f 0) l := by
  rw [CT, if_neg (by omega), if_neg (by omega), if_neg (by omega), if_pos ⟨h1, h2⟩]; rfl
theorem ct_const {f : Nat} {l : List ByteArray} (h1 : hk l ≠ 1) (h30 : hk l ≠ 30) (h4 : hk l ≠ 4) (ha : ¬ (26 ≤ hk l ∧ hk l ≤ 29)) : CT (f + 1) 0 l = constT l := by
  rw [CT, if_neg h1, if_neg h30, if_neg h4, if_neg ha]; rfl
set_option maxHeartbeats 8000000 in
set_option maxRecDepth 100000 in
theorem pexpr_col (b : Nat) (v : Value) (ts : List ByteArray) (c : Option (List ByteArray)) (K : Nat) (hK : hkc c = K) (o : Option (List ByteArray × Tr)) (w : World) (h : Rd w b v ts c) (hs : Sm ts) (hp : ∀ W : World, Rd W b v ts c → W.heap = w.heap → Calls Tryz.prog 267 #[.pointer (some ⟨b, 0, none⟩)] W (PartPost W b v ts o)) (hk1 : K = 1) :
    Calls Tryz.prog 263 #[.pointer (some ⟨b, 0, none⟩)] w (PartPost w b v ts o) := by
  have f1 : ((K : Int) == 1) = true := by rw [beq_iff_eq]; omega
  have HK := hide hK
  clear hK
  go_enter Tryz.func263, Tryz.ntmps263
  go_wp2_with (first | (go_at_call 191; refine (next_any b v ts c _ h hs.1).mono ?_; rintro e w1 ⟨rfl, n1, rfl⟩; rw [HK.out]) | (go_at_call 267; refine (hp (w.drewN n1) (h.drewN n1) rfl).mono ?_; rintro e2 w2 ⟨x2, rfl, hR2, hg2, hI2⟩))
  go_ret
  exact PartPost.undrew ⟨x2, rfl, hR2, hg2, hI2⟩
set_option maxHeartbeats 8000000 in
set_option maxRecDepth 100000 in
theorem expr_const (b : Nat) (v : Value) (ts : List ByteArray) (c : Option (List ByteArray)) (K : Nat) (hK : hkc c = K) (o : Option (List ByteArray × Tr)) (w : World) (h : Rd w b v ts c) (hs : Sm ts) (hp : ∀ W : World, Rd W b v ts c → W.heap = w.heap → Calls Tryz.prog 354 #[.pointer (some ⟨b, 0, none⟩)] W (PartPost W b v ts o)) (h1 : K ≠ 1) (h30 : K ≠ 30) (h4 : K ≠ 4) (ha : ¬ (26 ≤ K ∧ K ≤ 29)) :
    Calls Tryz.prog 263 #[.pointer (some ⟨b, 0, none⟩)] w (PartPost w b v ts o) := by
  have f1 : ((K : Int) == 1) = false := by rw [beq_eq_false_iff_ne]; omega
  have f30 : ((K : Int) == 30) = false := by rw [beq_eq_false_iff_ne]; omega
  have f4 : ((K : Int) == 4) = false := by rw [beq_eq_false_iff_ne]; omega
  have f26 : ((K : Int) == 26) = false := by rw [beq_eq_false_iff_ne]; omega
  have f27 : ((K : Int) == 27) = false := by rw [beq_eq_false_iff_ne]; omega
  have f28 : ((K : Int) == 28) = false := by rw [beq_eq_false_iff_ne]; omega
  have f29 : ((K : Int) == 29) = false := by rw [beq_eq_false_iff_ne]; omega
  have HK := hide hK
  clear hK
  go_enter Tryz.func263, Tryz.ntmps263
  go_wp2_with (first | (go_at_call 191; refine (next_any b v ts c _ h hs.1).mono ?_; rintro e w1 ⟨rfl, n1, rfl⟩; rw [HK.out]) | (go_at_call 354; refine (hp (w.drewN n1) (h.drewN n1) rfl).mono ?_; rintro e2 w2 ⟨x2, rfl, hR2, hg2, hI2⟩))
  go_ret
  exact PartPost.undrew ⟨x2, rfl, hR2, hg2, hI2⟩
set_option maxHeartbeats 8000000 in
set_option maxRecDepth 100000 in
theorem expr_agg26 (b : Nat) (v : Value) (ts : List ByteArray) (c : Option (List ByteArray)) (K : Nat) (hK : hkc c = K) (o : Option (List ByteArray × Tr)) (w : World) (h : Rd w b v ts c) (hs : Sm ts) (hp : ∀ W : World, Rd W b v ts c → W.heap = w.heap → Calls Tryz.prog 353 #[.pointer (some ⟨b, 0, none⟩)] W (PartPost W b v ts o)) (hk1 : K = 26) :
    Calls Tryz.prog 263 #[.pointer (some ⟨b, 0, none⟩)] w (PartPost w b v ts o) := by
  have f1 : ((K : Int) == 1) = false := by rw [beq_eq_false_iff_ne]; omega
  have f30 : ((K : Int) == 30) = false := by rw [beq_eq_false_iff_ne]; omega
  have f4 : ((K : Int) == 4) = false := by rw [beq_eq_false_iff_ne]; omega
  have f26 : ((K : Int) == 26) = true := by rw [beq_iff_eq]; omega
  have HK := hide hK
  clear hK
  go_enter Tryz.func263, Tryz.ntmps263
  go_wp2_with (first | (go_at_call 191; refine (next_any b v ts c _ h hs.1).mono ?_; rintro e w1 ⟨rfl, n1, rfl⟩; rw [HK.out]) | (go_at_call 353; refine (hp (w.drewN n1) (h.drewN n1) rfl).mono ?_; rintro e2 w2 ⟨x2, rfl, hR2, hg2, hI2⟩))
  go_ret
  exact PartPost.undrew ⟨x2, rfl, hR2, hg2, hI2⟩
set_option maxHeartbeats 8000000 in
set_option maxRecDepth 100000 in
theorem expr_agg27 (b : Nat) (v : Value) (ts : List ByteArray) (c : Option (List ByteArray)) (K : Nat) (hK : hkc c = K) (o : Option (List ByteArray × Tr)) (w : World) (h : Rd w b v ts c) (hs : Sm ts) (hp : ∀ W : World, Rd W b v ts c → W.heap = w.heap → Calls Tryz.prog 353 #[.pointer (some ⟨b, 0, none⟩)] W (PartPost W b v ts o)) (hk1 : K = 27) :
    Calls Tryz.prog 263 #[.pointer (some ⟨b, 0, none⟩)] w (PartPost w b v ts o) := by
  have f1 : ((K : Int) == 1) = false := by rw [beq_eq_false_iff_ne]; omega
  have f30 : ((K : Int) == 30) = false := by rw [beq_eq_false_iff_ne]; omega
  have f4 : ((K : Int) == 4) = false := by rw [beq_eq_false_iff_ne]; omega
  have f26 : ((K : Int) == 26) = false := by rw [beq_eq_false_iff_ne]; omega
  have f27 : ((K : Int) == 27) = true := by rw [beq_iff_eq]; omega
  have HK := hide hK
  clear hK
  go_enter Tryz.func263, Tryz.ntmps263
  go_wp2_with (first | (go_at_call 191; refine (next_any b v ts c _ h hs.1).mono ?_; rintro e w1 ⟨rfl, n1, rfl⟩; rw [HK.out]) | (go_at_call 353; refine (hp (w.drewN n1) (h.drewN n1) rfl).mono ?_; rintro e2 w2 ⟨x2, rfl, hR2, hg2, hI2⟩))
  go_ret
  exact PartPost.undrew ⟨x2, rfl, hR2, hg2, hI2⟩
set_option maxHeartbeats 8000000 in
set_option maxRecDepth 100000 in
theorem expr_agg28 (b : Nat) (v : Value) (ts : List ByteArray) (c : Option (List ByteArray)) (K : Nat) (hK : hkc c = K) (o : Option (List ByteArray × Tr)) (w : World) (h : Rd w b v ts c) (hs : Sm ts) (hp : ∀ W : World, Rd W b v ts c → W.heap = w.heap → Calls Tryz.prog 353 #[.pointer (some ⟨b, 0, none⟩)] W (PartPost W b v ts o)) (hk1 : K = 28) :
    Calls Tryz.prog 263 #[.pointer (some ⟨b, 0, none⟩)] w (PartPost w b v ts o) := by
  have f1 : ((K : Int) == 1) = false := by rw [beq_eq_false_iff_ne]; omega
  have f30 : ((K : Int) == 30) = false := by rw [beq_eq_false_iff_ne]; omega
  have f4 : ((K : Int) == 4) = false := by rw [beq_eq_false_iff_ne]; omega
  have f26 : ((K : Int) == 26) = false := by rw [beq_eq_false_iff_ne]; omega
  have f27 : ((K : Int) == 27) = false := by rw [beq_eq_false_iff_ne]; omega
  have f28 : ((K : Int) == 28) = true := by rw [beq_iff_eq]; omega
  have HK := hide hK
  clear hK
  go_enter Tryz.func263, Tryz.ntmps263
  go_wp2_with (first | (go_at_call 191; refine (next_any b v ts c _ h hs.1).mono ?_; rintro e w1 ⟨rfl, n1, rfl⟩; rw [HK.out]) | (go_at_call 353; refine (hp (w.drewN n1) (h.drewN n1) rfl).mono ?_; rintro e2 w2 ⟨x2, rfl, hR2, hg2, hI2⟩))
  go_ret
  exact PartPost.undrew ⟨x2, rfl, hR2, hg2, hI2⟩
set_option maxHeartbeats 8000000 in
set_option maxRecDepth 100000 in
theorem expr_agg29 (b : Nat) (v : Value) (ts : List ByteArray) (c : Option (List ByteArray)) (K : Nat) (hK : hkc c = K) (o : Option (List ByteArray × Tr)) (w : World) (h : Rd w b v ts c) (hs : Sm ts) (hp : ∀ W : World, Rd W b v ts c → W.heap = w.heap → Calls Tryz.prog 353 #[.pointer (some ⟨b, 0, none⟩)] W (PartPost W b v ts o)) (hk1 : K = 29) :
    Calls Tryz.prog 263 #[.pointer (some ⟨b, 0, none⟩)] w (PartPost w b v ts o) := by
  have f1 : ((K : Int) == 1) = false := by rw [beq_eq_false_iff_ne]; omega
  have f30 : ((K : Int) == 30) = false := by rw [beq_eq_false_iff_ne]; omega
  have f4 : ((K : Int) == 4) = false := by rw [beq_eq_false_iff_ne]; omega
  have f26 : ((K : Int) == 26) = false := by rw [beq_eq_false_iff_ne]; omega
  have f27 : ((K : Int) == 27) = false := by rw [beq_eq_false_iff_ne]; omega
  have f28 : ((K : Int) == 28) = false := by rw [beq_eq_false_iff_ne]; omega
  have f29 : ((K : Int) == 29) = true := by rw [beq_iff_eq]; omega
  have HK := hide hK
  clear hK
  go_enter Tryz.func263, Tryz.ntmps263
  go_wp2_with (first | (go_at_call 191; refine (next_any b v ts c _ h hs.1).mono ?_; rintro e w1 ⟨rfl, n1, rfl⟩; rw [HK.out]) | (go_at_call 353; refine (hp (w.drewN n1) (h.drewN n1) rfl).mono ?_; rintro e2 w2 ⟨x2, rfl, hR2, hg2, hI2⟩))
  go_ret
  exact PartPost.undrew ⟨x2, rfl, hR2, hg2, hI2⟩
set_option maxHeartbeats 8000000 in
set_option maxRecDepth 100000 in
theorem expr_now (b : Nat) (v : Value) (ts : List ByteArray) (c : Option (List ByteArray)) (K : Nat) (hK : hkc c = K) (o : Option (List ByteArray × Tr)) (w : World) (h : Rd w b v ts c) (hs : Sm ts) (hk1 : K = 30) (ho : tailc c = o.map (·.1)) (ho2 : ∀ r t, o = some (r, t) → t = nodeT 3 .nil) :
    Calls Tryz.prog 263 #[.pointer (some ⟨b, 0, none⟩)] w (PartPost w b v ts o) := by
  have f1 : ((K : Int) == 1) = false := by rw [beq_eq_false_iff_ne]; omega
  have f30 : ((K : Int) == 30) = true := by rw [beq_iff_eq]; omega
  have HK := hide hK
  have HO := hide ho
  have HO2 := hide ho2
  clear hK ho ho2
  go_enter Tryz.func263, Tryz.ntmps263
  go_wp2_with (first | (go_at_call 191; refine (next_any b v ts c _ h hs.1).mono ?_; rintro e w1 ⟨rfl, n1, rfl⟩; rw [HK.out]) | (go_at_call 193; refine (take_any b v ts c _ (h.drewN n1) hs.1).mono ?_; rw [HO.out]; rintro e w2 ⟨rfl, hR2, hg2⟩; simp only [tokV]))
  go_ret
  have hG := (grownBy_drewN w n1 (some b)).trans hg2
  refine ⟨_, rfl, hR2.alloc _, hG.trans (World.grownBy_alloc w2 _ _), fun r t ht => ?_⟩
  rw [HO2.out r t ht]
  exact leaf_is (k := 3) (val := Vl.zero) hG.size (new_at _ _ rfl _)
set_option maxHeartbeats 8000000 in
set_option maxRecDepth 100000 in
theorem expr_pair (P : List ByteArray → Option (List ByteArray × Tr)) (b : Nat) (v : Value) (ts : List ByteArray) (c : Option (List ByteArray)) (K : Nat) (hK : hkc c = K) (w : World) (h : Rd w b v ts c) (hs : Sm ts) (hg : Glob w) (h8 : 8 ≤ b) (hk1 : K = 4)
    (hp1 : PartAt 263 b v ts P (tkR 4 c)) (hp2 : PartAt 263 b v ts P (tailc (expC [11, 12, 13] (((tkR 4 c).bind P).map (·.1))))) :
    Calls Tryz.prog 263 #[.pointer (some ⟨b, 0, none⟩)] w (PartPost w b v ts (c.bind (pairT P [11, 12, 13]))) := by
  have f1 : ((K : Int) == 1) = false := by rw [beq_eq_false_iff_ne]; omega
  have f30 : ((K : Int) == 30) = false := by rw [beq_eq_false_iff_ne]; omega
  have f4 : ((K : Int) == 4) = true := by rw [beq_iff_eq]; omega
  have HK := hide hK
  clear hK
  generalize ho : c.bind (pairT P [11, 12, 13]) = o
  have HP : ∀ W : World, Rd W b v ts c → W.heap = w.heap → Calls Tryz.prog 352 #[.pointer (some ⟨b, 0, none⟩), .func (.func 263) #[.pointer (some ⟨b, 0, none⟩)] #[], .slice (some ⟨w.heap.size, 0, none⟩) 3 3] (W.alloc (.cells #[.int .i64 11, .int .i64 12, .int .i64 13] 152)) (PartPost (W.alloc (.cells #[.int .i64 11, .int .i64 12, .int .i64 13] 152)) b v ts o) := by
    intro W hW he
    rw [← ho]
    have hz : W.heap.size = w.heap.size := by rw [he]
    have hGW : Glob W := hg.kept (by rw [he]; exact Nat.le_refl _) (fun k _ => by rw [he])
    have hKs := Ks.made W [11, 12, 13] #[.int .i64 11, .int .i64 12, .int .i64 13] rfl (by decide)
    rw [hz] at hKs
    exact pair_expr P [11, 12, 13] _ b v ts c _ (hW.alloc _) hKs (hGW.below ((Below.refl W.heap.size _).alloc (Nat.le_refl _) _) hGW.big) hs h8 (by decide) (by decide) (by decide) hp1 hp2
  clear hp1 hp2 ho
  go_enter Tryz.func263, Tryz.ntmps263
  go_wp2_with (first | (go_at_call 191; refine (next_any b v ts c _ h hs.1).mono ?_; rintro e w1 ⟨rfl, n1, rfl⟩; rw [HK.out]) | fail)
  refine (HP (w.drewN n1) (h.drewN n1) rfl).mono ?_
  rintro e2 w2 ⟨x2, rfl, hR2, hg2, hI2⟩
  go_wp2_with fail
  go_ret
  exact PartPost.undrew (PartPost.unalloc ⟨x2, rfl, hR2, hg2, hI2⟩)
theorem expr_nothing (P : List ByteArray → Option (List ByteArray × Tr)) (b : Nat) (v : Value) (ts : List ByteArray) (hs : Sm ts) : PartAt 263 b v ts P none := fun w h _ =>
  expr_const b v ts none 0 rfl none w h hs (fun W hW _ => constant_part b v ts none W hW hs) (by decide) (by decide) (by decide) (by decide)
theorem pexpr_all : ∀ (f b : Nat) (v : Value) (ts : List ByteArray), Sm ts → 8 ≤ b → ∀ c, Room f 1 c → PartAt 263 b v ts (CT f 0) c := by
  intro f
  induction f with
  | zero =>
    intro b v ts hs h8 c hr
    cases c with
    | none => exact expr_nothing _ b v ts hs
    | some l => have := hr l rfl; omega
  | succ f ih =>
    intro b v ts hs h8 c hr w h hg
    cases c with
    | none => exact expr_nothing _ b v ts hs w h hg
    | some l =>
      have hr' := hr l rfl
      rw [Option.bind_some]
      by_cases h1 : hk l = 1
      · rw [ct_col h1]
        exact pexpr_col b v ts (some l) 1 h1 _ w h hs (fun W hW _ => column_part b v ts (some l) W hW hs.1) rfl
      by_cases h30 : hk l = 30
      · rw [ct_now h30]
        refine expr_now b v ts (some l) 30 h30 _ w h hs rfl ?_ (fun r t ht => ?_)
        · obtain ⟨t, r, rfl, _⟩ := hk_some h30 (by decide); rfl
        · simp only [Option.some.injEq, Prod.mk.injEq] at ht; exact ht.2.symm
      by_cases h4 : hk l = 4
      · rw [ct_pair h4]
        obtain ⟨t, r, rfl, hkt⟩ := hk_some h4 (by decide)
        have hl1 : 8 * r.length + 1 ≤ f := by rw [List.length_cons] at hr'; omega
        have hc1 : tkR 4 (some (t :: r)) = some r := by rw [tkR_some, takeT, if_pos hkt]; rfl
        refine expr_pair (CT f 0) b v ts (some (t :: r)) 4 h4 w h hs hg h8 rfl ?_ ?_
        · rw [hc1]
          exact ih b v ts hs h8 _ (fun r' e => by obtain rfl := Option.some.inj e; exact hl1)
        · refine ih b v ts hs h8 _ (fun r' e => ?_)
          rw [hc1, Option.bind_some, (exp_tail [11, 12, 13] (by decide) _).1] at e
          cases hx : CT f 0 r with
          | none => rw [hx] at e; cases e
          | some x =>
            rw [hx] at e
            have hle := CT_le hx
            simp only [Option.map_some, Option.bind_some] at e
            split at e
            · obtain rfl := Option.some.inj e
              rw [List.length_tail]; omega
            · cases e
      by_cases ha : 26 ≤ hk l ∧ hk l ≤ 29
      · rw [ct_agg ha.1 ha.2]
        have hroom : Room f 1 (tkR 4 (some l.tail)) := room_tkR (by rw [List.length_tail]; omega)
        have hp := ih b v ts hs h8 _ hroom
        have main : ∀ W : World, Rd W b v ts (some l) → W.heap = w.heap → Calls Tryz.prog 353 #[.pointer (some ⟨b, 0, none⟩)] W (PartPost W b v ts (aggT (CT f 0) l)) := by
          intro W hW he
          have hGW : Glob W := hg.kept (by rw [he]; exact Nat.le_refl _) (fun k _ => by rw [he])
          by_cases h26 : hk l = 26
          · by_cases h13 : hkc (tkR 4 (some l.tail)) = 13
            · obtain ⟨c2', e, h13'⟩ := hkc_some h13 (by decide)
              exact agg_B (CT f 0) b v ts l W hW hGW hs h8 ha.1 ha.2 h26 c2' e h13'
            · exact agg_C (CT f 0) b v ts l W hW hGW hs h8 ha.1 ha.2 h26 h13 hp
          · exact agg_A (CT f 0) b v ts l W hW hGW hs h8 ha.1 ha.2 h26 hp
        have : hk l = 26 ∨ hk l = 27 ∨ hk l = 28 ∨ hk l = 29 := by omega
        rcases this with e | e | e | e
        · exact expr_agg26 b v ts (some l) 26 e _ w h hs main rfl
        · exact expr_agg27 b v ts (some l) 27 e _ w h hs main rfl
        · exact expr_agg28 b v ts (some l) 28 e _ w h hs main rfl
        · exact expr_agg29 b v ts (some l) 29 e _ w h hs main rfl
      · rw [ct_const h1 h30 h4 ha]
        exact expr_const b v ts (some l) (hk l) rfl _ w h hs (fun W hW _ => constant_part b v ts (some l) W hW hs) h1 h30 h4 ha
end Go.Proofs.YtbkeflgafjnefaaGreatDoor
namespace Go.Proofs.YtbkeflgafjnefaaGreatDoor
open Go.RowKit
open Trib
/-- Where the scan for 'and' and 'or' stands. -/
def OpensAt (l : List ByteArray) (j : Nat) (n : Int) (res : Bool) : Prop := opensL n ((l.drop j).map kd) = res
theorem OpensAt.yes {l : List ByteArray} {j : Nat} {n : Int} {res : Bool} (h : OpensAt l j n res) (hj : j < l.length) (hk : kd l[j] = 20 ∨ kd l[j] = 21) : res = true := by
  unfold OpensAt at h
  rw [drop_head hj, List.map_cons, opensL, if_pos hk] at h
  exact h.symm
theorem OpensAt.no {l : List ByteArray} {j : Nat} {n m : Int} {res : Bool} (h : OpensAt l j n res) (hj : j < l.length) (hk : ¬ (kd l[j] = 20 ∨ kd l[j] = 21)) (hm : (if kd l[j] = 4 then n + 1 else if kd l[j] = 5 then n - 1 else n) = m) (h0 : m = 0) : res = false := by
  unfold OpensAt at h
  rw [drop_head hj, List.map_cons, opensL, if_neg hk, hm, if_pos h0] at h
  exact h.symm
theorem OpensAt.next {l : List ByteArray} {j : Nat} {n m : Int} {res : Bool} (h : OpensAt l j n res) (hj : j < l.length) (hk : ¬ (kd l[j] = 20 ∨ kd l[j] = 21)) (hm : (if kd l[j] = 4 then n + 1 else if kd l[j] = 5 then n - 1 else n) = m) (h0 : m ≠ 0) : OpensAt l (j + 1) m res := by
  unfold OpensAt at h ⊢
  rw [drop_head hj, List.map_cons, opensL, if_neg hk, hm, if_neg h0] at h
  exact h
theorem OpensAt.fin {l : List ByteArray} {j : Nat} {n : Int} {res : Bool} (h : OpensAt l j n res) (hj : ¬ j < l.length) : res = false := by
  unfold OpensAt at h
  rw [List.drop_eq_nil_of_le (by omega)] at h
  exact h.symm
set_option maxHeartbeats 8000000 in
theorem opensCond_any (b : Nat) (v : Value) (ts l : List ByteArray) (w : World) (h : Rd w b v ts (some l)) (hs : Sm ts) (hk4 : hk l = 4) :
    Calls Tryz.prog 356 #[.pointer (some ⟨b, 0, none⟩)] w fun e w' => e = .returned (.bool (opensL 0 (l.map kd))) ∧ Below w.heap.size w w' := by
  have hsl := hs.1
  obtain ⟨p, bad, h1, hrow, hp, hbad, hc⟩ := h
  have hb0 : bad = false := by cases bad with
    | false => rfl
    | true => cases hc
  subst hb0
  obtain rfl : l = ts.drop p := Option.some.inj hc
  clear hc hbad
  obtain ⟨c0, c1, c2⟩ := h1.cells
  obtain ⟨t0, r0, hl0, _⟩ := hk_some hk4 (by decide)
  have hlt : p < ts.length := by
    rcases Nat.lt_or_ge p ts.length with h | h
    · exact h
    · rw [List.drop_eq_nil_of_le h] at hl0; cases hl0
  clear hl0 hk4
  obtain ⟨g, cap, rfl, _⟩ := rd_cells hrow p hlt
  have hcap : ts.length ≤ cap := by
    rcases hrow.2 with ⟨e, _⟩ | ⟨g', cap', cur, e, _, _, h4, _⟩
    · cases e
    · simp only [Value.slice.injEq] at e
      obtain ⟨_, _, rfl⟩ := e; exact h4
  generalize hres : opensL 0 ((ts.drop p).map kd) = res
  have hO : OpensAt (ts.drop p) 0 0 res := hres
  clear hres
  have hp' : (p : Int) ≤ (ts.length : Int) := by omega
  have hp2 : (p : Int) < (cap : Int) := by omega
  have hpc : (p : Int) ≤ (cap : Int) := by omega
  have hlc : (ts.length : Int) ≤ (cap : Int) := by omega
  have hglt : g < w.heap.size := (hrow.lt g rfl).2
  go_enter Tryz.func356, Tryz.ntmps356
  go_wp2_with fail
  go_quiet (fail)
  go_wp2_with fail
  have hlen : (ts.drop p).length = ts.length - p := List.length_drop
  go_loopg [3, 16] (ts.length - p + 1) (fun q lv i wr => ∃ (j : Nat) (n : Int), j ≤ ts.length - p ∧ lv = .int .i64 n ∧ i = .int .i64 j ∧ -(j : Int) ≤ n ∧ n ≤ j ∧ OpensAt (ts.drop p) j n res ∧ Below w.heap.size w wr ∧ ts.length - p - j < q)
  case atStart => exact ⟨0, 0, Nat.zero_le _, rfl, rfl, by omega, by omega, hO, below_drewN _ _ _, by omega⟩
  case round =>
    obtain ⟨j, n, hj, rfl, rfl, hn1, hn2, hOj, hb, hq⟩ := hrel
    have hwr1 : IntKind.i64.wrap ((j : Int) + 1) = (j : Int) + 1 := by rw [IntKind.wrap_i64]; omega
    have hwr2 : IntKind.i64.wrap (n + 1) = n + 1 := by rw [IntKind.wrap_i64]; omega
    have hwr3 : IntKind.i64.wrap (n - 1) = n - 1 := by rw [IntKind.wrap_i64]; omega
    by_cases hjl : j < ts.length - p
    · have hjl' : (j : Int) < ((ts.length - p : Nat) : Int) := by omega
      have hjl2 : j < (ts.drop p).length := by omega
      obtain ⟨g', cap', hv, hc1, hc2⟩ := rd_cells (row_below hrow hb) (p + j) (by omega)
      obtain ⟨rfl, rfl⟩ : g = g' ∧ cap = cap' := by simpa using hv
      have eoff : (p + j) * 2 = p * 2 + j * 2 := by omega
      rw [eoff] at hc1 hc2
      have hget : (ts.drop p)[j] = ts[p + j]'(by omega) := List.getElem_drop
      have hyes := hOj.yes hjl2
      have hno := fun m => hOj.no (m := m) hjl2
      have hnext := fun m => hOj.next (m := m) hjl2
      rw [hget] at hyes
      simp only [hget] at hno hnext
      generalize ts[p + j]'(by omega) = t at *
      generalize kd t = k at *
      have HQ := hide hq
      clear hv eoff hget hOj hO hrow hq
      by_cases hand : k = 20 ∨ k = 21
      · obtain rfl := hyes hand
        have f4 : ((k : Int) == 4) = false := by rw [beq_eq_false_iff_ne]; omega
        have f5 : ((k : Int) == 5) = false := by rw [beq_eq_false_iff_ne]; omega
        clear hyes hno hnext
        rcases hand with hand | hand
        · have f20 : ((k : Int) == 20) = true := by rw [beq_iff_eq]; omega
          clear hand
          go_wp2_with fail
          go_ret
          exact ⟨rfl, hb.alloc hb.size _⟩
        · have f20 : ((k : Int) == 20) = false := by rw [beq_eq_false_iff_ne]; omega
          have f21 : ((k : Int) == 21) = true := by rw [beq_iff_eq]; omega
          clear hand
          go_wp2_with fail
          go_ret
          exact ⟨rfl, hb.alloc hb.size _⟩
      · have f20 : ((k : Int) == 20) = false := by rw [beq_eq_false_iff_ne]; omega
        have f21 : ((k : Int) == 21) = false := by rw [beq_eq_false_iff_ne]; omega
        have hno' := fun m => hno m hand
        have hnext' := fun m => hnext m hand
        clear hyes hno hnext hand
        by_cases h4 : k = 4
        · have f4 : ((k : Int) == 4) = true := by rw [beq_iff_eq]; omega
          have hno2 := hno' (n + 1) (by rw [if_pos h4])
          have hnext2 := hnext' (n + 1) (by rw [if_pos h4])
          clear hno' hnext' h4
          by_cases hz : n + 1 = 0
          · have hz' : (n + 1 == 0) = true := by rw [beq_iff_eq]; exact hz
            obtain rfl := hno2 hz
            clear hz hno2 hnext2
            go_wp2_with fail
            go_ret
            exact ⟨rfl, hb.alloc hb.size _⟩
          · have hz' : (n + 1 == 0) = false := by rw [beq_eq_false_iff_ne]; exact hz
            have HN := hide (hnext2 hz)
            clear hz hno2 hnext2
            go_wp2_with fail
            have hq := HQ.out
            go_roundg (gk - 1)
            case measure => omega
            case rel => exact ⟨j + 1, n + 1, by omega, by go_num, by go_num, by omega, by omega, HN.out, hb.alloc hb.size _, by omega⟩
        · have f4 : ((k : Int) == 4) = false := by rw [beq_eq_false_iff_ne]; omega
          by_cases h5 : k = 5
          · have f5 : ((k : Int) == 5) = true := by rw [beq_iff_eq]; omega
            have hno2 := hno' (n - 1) (by rw [if_neg h4, if_pos h5])
            have hnext2 := hnext' (n - 1) (by rw [if_neg h4, if_pos h5])
            clear hno' hnext' h4 h5
            by_cases hz : n - 1 = 0
            · have hz' : (n - 1 == 0) = true := by rw [beq_iff_eq]; exact hz
              obtain rfl := hno2 hz
              clear hz hno2 hnext2
              go_wp2_with fail
              go_ret
              exact ⟨rfl, hb.alloc hb.size _⟩
            · have hz' : (n - 1 == 0) = false := by rw [beq_eq_false_iff_ne]; exact hz
              have HN := hide (hnext2 hz)
              clear hz hno2 hnext2
              go_wp2_with fail
              have hq := HQ.out
              go_roundg (gk - 1)
              case measure => omega
              case rel => exact ⟨j + 1, n - 1, by omega, by go_num, by go_num, by omega, by omega, HN.out, hb.alloc hb.size _, by omega⟩
          · have f5 : ((k : Int) == 5) = false := by rw [beq_eq_false_iff_ne]; omega
            have hno2 := hno' n (by rw [if_neg h4, if_neg h5])
            have hnext2 := hnext' n (by rw [if_neg h4, if_neg h5])
            clear hno' hnext' h4 h5
            by_cases hz : n = 0
            · have hz' : (n == 0) = true := by rw [beq_iff_eq]; exact hz
              obtain rfl := hno2 hz
              clear hz hno2 hnext2
              go_wp2_with fail
              go_ret
              exact ⟨rfl, hb.alloc hb.size _⟩
            · have hz' : (n == 0) = false := by rw [beq_eq_false_iff_ne]; exact hz
              have HN := hide (hnext2 hz)
              clear hz hno2 hnext2
              go_wp2_with fail
              have hq := HQ.out
              go_roundg (gk - 1)
              case measure => omega
              case rel => exact ⟨j + 1, n, by omega, rfl, by go_num, by omega, by omega, HN.out, hb.alloc hb.size _, by omega⟩
    · obtain rfl := hOj.fin (by omega)
      have hjl' : ((ts.length - p : Nat) : Int) ≤ (j : Int) := by omega
      clear hOj hq
      go_wp2_with fail
      go_ret
      exact ⟨rfl, hb⟩
end Go.Proofs.YtbkeflgafjnefaaGreatDoor
namespace Go.Proofs.YtbkeflgafjnefaaGreatDoor
open Go.RowKit
open Trib
/-- A comparison. -/
def cmpT (P : List ByteArray → Option (List ByteArray × Tr)) (ts : List ByteArray) : Option (List ByteArray × Tr) := (P ts).bind fun x =>
      if hk x.1 = 23 then (takeT 24 x.1.tail).bind fun z => some (z.2, nodeT 19 (.cons x.2 .nil))
      else if hk x.1 = 8 ∨ hk x.1 = 9 ∨ hk x.1 = 10 then (P x.1.tail).bind fun y => some (y.1, nodeT (kindsL.getD (hk x.1) 0) (.cons x.2 (.cons y.2 .nil))) else none
theorem inKc (k : Nat) : inK [8, 9, 10] k = decide (k = 8 ∨ k = 9 ∨ k = 10) := by
  unfold inK
  by_cases h2 : k = 8
  · subst h2; rfl
  · by_cases h3 : k = 9
    · subst h3; rfl
    · by_cases h4 : k = 10
      · subst h4; rfl
      · simp [h2, h3, h4]
theorem cmp_is {P : List ByteArray → Option (List ByteArray × Tr)} {c : Option (List ByteArray)} (h : hkc ((c.bind P).map (·.1)) = 23) :
    tkR 24 (tailc ((c.bind P).map (·.1))) = (c.bind (cmpT P)).map (·.1) ∧ ∀ r t, c.bind (cmpT P) = some (r, t) → ∃ x, c.bind P = some x ∧ t = nodeT 19 (.cons x.2 .nil) := by
  cases c with
  | none => exact ⟨rfl, fun r t h => by cases h⟩
  | some l =>
    rw [Option.bind_some] at h
    rw [Option.bind_some, Option.bind_some]
    unfold cmpT
    cases hx : P l with
    | none => exact ⟨rfl, fun r t h => by cases h⟩
    | some x =>
      rw [hx] at h
      have h' : hk x.1 = 23 := h
      rw [Option.bind_some, if_pos h']
      obtain ⟨t0, r0, e0, _⟩ := hk_some h' (by decide)
      simp only [Option.map_some]
      rw [e0]
      rw [List.tail_cons]
      show tkR 24 (some r0) = _ ∧ _
      rw [tkR_some]
      cases takeT 24 r0 with
      | none => exact ⟨rfl, fun r t h => by cases h⟩
      | some z =>
        refine ⟨rfl, fun r t h => ⟨x, rfl, ?_⟩⟩
        simp only [Option.bind_some, Option.some.injEq, Prod.mk.injEq] at h
        exact h.2.symm
theorem cmp_op {P : List ByteArray → Option (List ByteArray × Tr)} {c : Option (List ByteArray)} (h : hkc ((c.bind P).map (·.1)) ≠ 23) :
    ((tailc (expC [8, 9, 10] ((c.bind P).map (·.1)))).bind P).map (·.1) = (c.bind (cmpT P)).map (·.1) ∧ ∀ r t, c.bind (cmpT P) = some (r, t) → ∃ x y, c.bind P = some x ∧ (tailc (expC [8, 9, 10] ((c.bind P).map (·.1)))).bind P = some y ∧ t = nodeT (kindsL.getD (headTok (expC [8, 9, 10] ((c.bind P).map (·.1)))).1 0) (.cons x.2 (.cons y.2 .nil)) := by
  cases c with
  | none => exact ⟨by show ((tailc (expC [8, 9, 10] none)).bind P).map _ = none; rw [expC_none]; rfl, fun r t h => by cases h⟩
  | some l =>
    rw [Option.bind_some] at h
    rw [Option.bind_some, Option.bind_some]
    unfold cmpT
    cases hx : P l with
    | none => exact ⟨by show ((tailc (expC [8, 9, 10] none)).bind P).map _ = none; rw [expC_none]; rfl, fun r t h => by cases h⟩
    | some x =>
      rw [hx] at h
      have h' : hk x.1 ≠ 23 := h
      rw [Option.bind_some, if_neg h']
      simp only [Option.map_some]
      obtain ⟨t1, t2, _⟩ := exp_tail [8, 9, 10] (by decide) (some x.1)
      rw [t1] at t2
      rw [t1]
      simp only [Option.bind_some] at t2 ⊢
      rw [inKc] at t2 ⊢
      by_cases hi : hk x.1 = 8 ∨ hk x.1 = 9 ∨ hk x.1 = 10
      · rw [decide_eq_true hi] at t2 ⊢
        rw [if_pos hi]
        obtain ⟨t3, _⟩ := t2 x.1.tail rfl
        rw [t3]
        simp only [if_true, Option.bind_some]
        cases P x.1.tail with
        | none => exact ⟨rfl, fun r t h => by cases h⟩
        | some y =>
          refine ⟨rfl, fun r t h => ⟨x, y, rfl, rfl, ?_⟩⟩
          simp only [Option.bind_some, Option.some.injEq, Prod.mk.injEq] at h
          exact h.2.symm
      · rw [decide_eq_false hi, if_neg hi]
        exact ⟨rfl, fun r t h => by cases h⟩
set_option maxHeartbeats 8000000 in
set_option maxRecDepth 100000 in
theorem comparison_is (P : List ByteArray → Option (List ByteArray × Tr)) (b : Nat) (v : Value) (ts : List ByteArray) (c : Option (List ByteArray)) (w : World) (h : Rd w b v ts c) (hg : Glob w) (hs : Sm ts) (hp : PartAt 263 b v ts P c) (h23 : hkc ((c.bind P).map (·.1)) = 23) :
    Calls Tryz.prog 357 #[.pointer (some ⟨b, 0, none⟩)] w (PartPost w b v ts (c.bind (cmpT P))) := by
  obtain ⟨e1, e2⟩ := cmp_is h23
  unfold PartPost
  generalize ho1 : c.bind P = o1 at e1 e2 h23
  generalize hc2 : tailc (o1.map (·.1)) = c2 at e1
  generalize hc3 : tkR 24 c2 = c3 at e1
  rw [← e1]
  have E2 := hide e2
  clear e1 e2
  have hblt := h.lt
  have ha : accC 23 (o1.map (·.1)) = c2 := by unfold accC; rw [if_pos h23, hc2]
  go_enter Tryz.func357, Tryz.ntmps357
  go_wp2_with fail
  refine (hp w h hg).mono ?_
  rw [ho1]
  rintro e w1 ⟨x1, rfl, hR1, hg1, hI1⟩
  have hs1 := hg1.size
  go_wp2_with fail
  refine (accept_any b v ts _ 23 w1 hR1 hs.1).mono ?_
  rw [ha, decide_eq_true h23]
  rintro e w2 ⟨rfl, hR2, hg2⟩
  have hs2 := hg2.size
  clear ha h23 hc2
  go_wp2_with fail
  refine (expectE 24 24 rfl (by decide) b v ts c2 c3 _ rfl hc3 w2 _ (by simp) hR2 hs.1).mono ?_
  rintro e w3 ⟨rfl, hR3, hg3⟩
  have hs3 := hg3.size
  have hG : w.grownBy w3 (some b) := (hg1.trans hg2).trans hg3
  clear ho1 hc3
  go_wp2_with fail
  go_ret
  refine ⟨_, rfl, (hR3.alloc _).alloc _, (hG.trans (World.grownBy_alloc w3 _ _)).trans (World.grownBy_alloc _ _ _), fun r t ht => ?_⟩
  obtain ⟨x, hx, rfl⟩ := E2.out r t ht
  have I1 : Is w3 w.heap.size x.2 [.pointer (some ⟨x1, 0, none⟩)] := ((hI1 x.1 x.2 hx).kept (stays_grown hg2 hblt)).kept (stays_grown hg3 hblt)
  exact node_is (vs := [.pointer (some ⟨x1, 0, none⟩)]) rfl (by omega) (by show 1 ≤ 100; omega) (.cons I1 .nil)
set_option maxHeartbeats 8000000 in
set_option maxRecDepth 100000 in
theorem comparison_op (P : List ByteArray → Option (List ByteArray × Tr)) (b : Nat) (v : Value) (ts : List ByteArray) (c : Option (List ByteArray)) (w : World) (h : Rd w b v ts c) (hg : Glob w) (hs : Sm ts) (h8 : 8 ≤ b) (hp : PartAt 263 b v ts P c) (h23 : hkc ((c.bind P).map (·.1)) ≠ 23) (hp2 : PartAt 263 b v ts P (tailc (expC [8, 9, 10] ((c.bind P).map (·.1))))) :
    Calls Tryz.prog 357 #[.pointer (some ⟨b, 0, none⟩)] w (PartPost w b v ts (c.bind (cmpT P))) := by
  obtain ⟨e1, e2⟩ := cmp_op h23
  have hk30 := kinds_lt (ks := [8, 9, 10]) (by decide) (c := (c.bind P).map (·.1)) (by decide)
  unfold PartPost
  generalize ho1 : c.bind P = o1 at e1 e2 h23 hp2 hk30
  generalize hT : headTok (expC [8, 9, 10] (o1.map (·.1))) = T at e2 hk30
  generalize hc3 : tailc (expC [8, 9, 10] (o1.map (·.1))) = c3 at e1 e2 hp2
  generalize ho2 : c3.bind P = o2 at e1 e2
  rw [← e1]
  have E2 := hide e2
  clear e1 e2
  obtain ⟨Ta, Tb⟩ := T
  simp only at hk30
  have hblt := h.lt
  have ha : accC 23 (o1.map (·.1)) = o1.map (·.1) := by unfold accC; rw [if_neg h23]
  go_enter Tryz.func357, Tryz.ntmps357
  go_wp2_with fail
  refine (hp w h hg).mono ?_
  rw [ho1]
  rintro e w1 ⟨x1, rfl, hR1, hg1, hI1⟩
  have hs1 := hg1.size
  have G1 := hg.grown hg1 h8
  go_wp2_with fail
  refine (accept_any b v ts _ 23 w1 hR1 hs.1).mono ?_
  rw [ha, decide_eq_false h23]
  rintro e w2 ⟨rfl, hR2, hg2⟩
  have hs2 := hg2.size
  have G2 := G1.grown hg2 h8
  clear ha h23
  go_wp2_with fail
  refine (expectK [8, 9, 10] _ 3 rfl rfl (by decide) b v ts _ c3 _ hT hc3 w2 _ (by simp) hR2 hs.1).mono ?_
  rintro e w3 ⟨rfl, hR3, hg3⟩
  have hs3 := hg3.size
  have G3 := G2.grown hg3 h8
  have hR3' := hR3.alloc (.cells #[.int .i64 (Ta : Int), .string Tb] 154)
  have G3' : Glob (w3.alloc (.cells #[.int .i64 (Ta : Int), .string Tb] 154)) := G3.below ((Below.refl w3.heap.size _).alloc (Nat.le_refl _) _) G3.big
  clear hT hc3
  go_wp2_with fail
  refine (hp2 _ hR3' G3').mono ?_
  rw [ho2]
  rintro e w4 ⟨x2, rfl, hR4, hg4, hI4⟩
  have hs4 : w3.heap.size + 1 ≤ w4.heap.size := by have := hg4.size; simpa using this
  have hblk4 : w4.heap[w3.heap.size]? = some (.cells #[.int .i64 (Ta : Int), .string Tb] 154 (0, 0)) := made_keptP rfl hR3.lt hg4
  have G4 := G3'.grown hg4 h8
  have d0 := blk_cell hblk4 (i := 0) rfl
  have dk := G4.kinds Ta hk30
  have E3 := E2.out
  clear E2
  generalize kindsL.getD Ta 0 = KK at dk E3
  have E2 := hide E3
  clear E3
  have hTa : (Ta : Int) < 30 := by omega
  have hTa0 : (0 : Int) ≤ (Ta : Int) := by omega
  have hG : w.grownBy w4 (some b) := ((hg1.trans hg2).trans hg3).trans ((World.grownBy_alloc w3 _ _).trans hg4)
  clear ho1 ho2
  go_wp2_with fail
  go_ret
  refine ⟨_, rfl, (hR4.alloc _).alloc _, (hG.trans (World.grownBy_alloc w4 _ _)).trans (World.grownBy_alloc _ _ _), fun r t ht => ?_⟩
  obtain ⟨x, y, hx, hy, rfl⟩ := E2.out r t ht
  have I1 : Is w4 w.heap.size x.2 [.pointer (some ⟨x1, 0, none⟩)] := ((((hI1 x.1 x.2 hx).kept (stays_grown hg2 hblt)).kept (stays_grown hg3 hblt)).kept (stays_alloc _ _ _)).kept (stays_grown hg4 hblt)
  have I2 : Is w4 w.heap.size y.2 [.pointer (some ⟨x2, 0, none⟩)] := (hI4 y.1 y.2 hy).low (by simp; omega)
  exact node_is (vs := [.pointer (some ⟨x1, 0, none⟩), .pointer (some ⟨x2, 0, none⟩)]) rfl (by omega) (by show 2 ≤ 100; omega) (.cons I1 (.cons I2 .nil))
end Go.Proofs.YtbkeflgafjnefaaGreatDoor
namespace Go.Proofs.YtbkeflgafjnefaaGreatDoor
open Go.RowKit
open Trib
/-- exists. -/
def exT (P : List ByteArray → Option (List ByteArray × Tr)) (ts : List ByteArray) : Option (List ByteArray × Tr) :=
  (takeT 4 ts.tail).bind fun a => (P a.2).bind fun x => (takeT 5 x.1).bind fun z => some (z.2, .node 15 ⟨#[]⟩ ⟨#[]⟩ Vl.zero .nil x.2)
theorem ex_chain {P : List ByteArray → Option (List ByteArray × Tr)} {l : List ByteArray} (h : hk l = 25) :
    tkR 25 (some l) = some l.tail ∧ tkR 5 (((tkR 4 (some l.tail)).bind P).map (·.1)) = (exT P l).map (·.1) ∧ ∀ r t, exT P l = some (r, t) → ∃ x, (tkR 4 (some l.tail)).bind P = some x ∧ t = .node 15 ⟨#[]⟩ ⟨#[]⟩ Vl.zero .nil x.2 := by
  obtain ⟨t0, r0, rfl, hk0⟩ := hk_some h (by decide)
  refine ⟨by rw [tkR_some, takeT, if_pos hk0]; rfl, ?_⟩
  unfold exT
  rw [List.tail_cons, tkR_some]
  cases takeT 4 r0 with
  | none => exact ⟨rfl, fun r t h => by cases h⟩
  | some a =>
    simp only [Option.map_some, Option.bind_some]
    cases P a.2 with
    | none => exact ⟨rfl, fun r t h => by cases h⟩
    | some x =>
      simp only [Option.map_some, Option.bind_some]
      rw [tkR_some]
      cases takeT 5 x.1 with
      | none => exact ⟨rfl, fun r t h => by cases h⟩
      | some z =>
        refine ⟨rfl, fun r t h => ⟨x, rfl, ?_⟩⟩
        simp only [Option.bind_some, Option.some.injEq, Prod.mk.injEq] at h
        exact h.2.symm
set_option maxHeartbeats 8000000 in
set_option maxRecDepth 100000 in
theorem exists_part (P : List ByteArray → Option (List ByteArray × Tr)) (b : Nat) (v : Value) (ts : List ByteArray) (l : List ByteArray) (w : World) (h : Rd w b v ts (some l)) (hg : Glob w) (hs : Sm ts) (h8 : 8 ≤ b) (h25 : hk l = 25) (hp : PartAt 189 b v ts P (tkR 4 (some l.tail))) :
    Calls Tryz.prog 355 #[.pointer (some ⟨b, 0, none⟩)] w (PartPost w b v ts (exT P l)) := by
  obtain ⟨e0, e1, e2⟩ := ex_chain (P := P) h25
  unfold PartPost
  generalize hc2 : tkR 4 (some l.tail) = c2 at e1 e2 hp
  generalize ho : c2.bind P = o at e1 e2
  generalize hc4 : tkR 5 (o.map (·.1)) = c4 at e1
  rw [← e1]
  have E2 := hide e2
  clear e1 e2 h25
  have hblt := h.lt
  go_enter Tryz.func355, Tryz.ntmps355
  go_wp2_with fail
  refine (expectE 25 25 rfl (by decide) b v ts (some l) (some l.tail) _ rfl e0 w _ (by simp) h hs.1).mono ?_
  rintro e w1 ⟨rfl, hR1, hg1⟩
  have hs1 := hg1.size
  go_wp2_with fail
  refine (expectE 4 4 rfl (by decide) b v ts (some l.tail) c2 _ rfl hc2 w1 _ (by simp) hR1 hs.1).mono ?_
  rintro e w2 ⟨rfl, hR2, hg2⟩
  have hs2 := hg2.size
  have G2 := (hg.grown hg1 h8).grown hg2 h8
  go_wp2_with fail
  refine (hp w2 hR2 G2).mono ?_
  rw [ho]
  rintro e w3 ⟨x1, rfl, hR3, hg3, hI3⟩
  have hs3 := hg3.size
  go_wp2_with fail
  refine (expectE 5 5 rfl (by decide) b v ts _ c4 _ rfl hc4 w3 _ (by simp) hR3 hs.1).mono ?_
  rintro e w4 ⟨rfl, hR4, hg4⟩
  have hs4 := hg4.size
  have hG : w.grownBy w4 (some b) := ((hg1.trans hg2).trans hg3).trans hg4
  clear e0 hc2 ho hc4
  go_wp2_with fail
  go_ret
  refine ⟨_, rfl, hR4.alloc _, hG.trans (World.grownBy_alloc w4 _ _), fun r t ht => ?_⟩
  obtain ⟨x, hx, rfl⟩ := E2.out r t ht
  have I1 : Is w4 w.heap.size x.2 [.pointer (some ⟨x1, 0, none⟩)] := ((hI3 x.1 x.2 hx).kept (stays_grown hg4 (by omega))).low (by omega)
  exact .node (vs := []) (qs := [.pointer (some ⟨x1, 0, none⟩)]) (val := Vl.zero) (p0 := 0) (p1 := 0) (p2 := 0) hG.size (new_at _ _ rfl _) (World.ownsRow_nil _ _ _ _) .nil (I1.kept (stays_alloc _ _ _))
theorem ct_not {f : Nat} {l : List ByteArray} (h : hk l = 22) : CT (f + 1) 1 l = (CT f 1 l.tail).bind fun x => some (x.1, nodeT 14 (.cons x.2 .nil)) := by rw [CT, if_pos h]
theorem ct_ex {f : Nat} {l : List ByteArray} (h : hk l = 25) : CT (f + 1) 1 l = exT (CT f 2) l := by rw [CT, if_neg (by omega), if_pos h]; rfl
theorem inK2 (k : Nat) : inK [20, 21] k = decide (k = 20 ∨ k = 21) := by
  unfold inK
  by_cases h2 : k = 20
  · subst h2; rfl
  · by_cases h3 : k = 21
    · subst h3; rfl
    · simp [h2, h3]
theorem ct_join {f : Nat} {l : List ByteArray} (h : hk l = 4) (ho : opensL 0 (l.map kd) = true) : CT (f + 1) 1 l = pairT (CT f 1) [20, 21] l := by
  obtain ⟨t, r, rfl, hkt⟩ := hk_some h (by decide)
  rw [CT, if_neg (by omega), if_neg (by omega), if_pos ⟨h, ho⟩, pairT, takeT, if_pos hkt, Option.bind_some]
  show (CT f 1 r).bind _ = (CT f 1 r).bind _
  congr 1
  funext x
  rw [inK2]
  by_cases hx : hk x.1 = 20 ∨ hk x.1 = 21
  · rw [if_pos hx, if_pos (decide_eq_true hx)]
  · rw [if_neg hx, if_neg (by simpa using hx)]
theorem ct_cmp {f : Nat} {l : List ByteArray} (h22 : hk l ≠ 22) (h25 : hk l ≠ 25) (h4 : ¬ (hk l = 4 ∧ opensL 0 (l.map kd) = true)) : CT (f + 1) 1 l = cmpT (CT f 0) l := by
  rw [CT, if_neg h22, if_neg h25, if_neg h4]; rfl
end Go.Proofs.YtbkeflgafjnefaaGreatDoor
namespace Go.Proofs.YtbkeflgafjnefaaGreatDoor
open Go.RowKit
open Trib
theorem not_chain (P : List ByteArray → Option (List ByteArray × Tr)) (l : List ByteArray) : ((some l.tail).bind P).map (·.1) = ((P l.tail).bind fun x => some (x.1, nodeT 14 (.cons x.2 .nil))).map (·.1) ∧ ∀ r t, ((P l.tail).bind fun x => some (x.1, nodeT 14 (.cons x.2 .nil))) = some (r, t) → ∃ x, (some l.tail).bind P = some x ∧ t = nodeT 14 (.cons x.2 .nil) := by
  rw [Option.bind_some]
  cases P l.tail with
  | none => exact ⟨rfl, fun r t h => by cases h⟩
  | some x =>
    refine ⟨rfl, fun r t h => ⟨x, rfl, ?_⟩⟩
    simp only [Option.bind_some, Option.some.injEq, Prod.mk.injEq] at h
    exact h.2.symm
set_option maxHeartbeats 8000000 in
set_option maxRecDepth 100000 in
theorem pcond_not (P : List ByteArray → Option (List ByteArray × Tr)) (b : Nat) (v : Value) (ts : List ByteArray) (l : List ByteArray) (w : World) (h : Rd w b v ts (some l)) (hg : Glob w) (hs : Sm ts) (h8 : 8 ≤ b) (h22 : hk l = 22) (hp : PartAt 266 b v ts P (some l.tail)) :
    Calls Tryz.prog 266 #[.pointer (some ⟨b, 0, none⟩)] w (PartPost w b v ts ((P l.tail).bind fun x => some (x.1, nodeT 14 (.cons x.2 .nil)))) := by
  obtain ⟨e1, e2⟩ := not_chain P l
  unfold PartPost
  generalize ho : (some l.tail).bind P = o at e1 e2
  rw [← e1]
  have E2 := hide e2
  clear e1 e2
  have hK : hkc (some l) = 22 := h22
  have ht : tailc (some l) = some l.tail := by
    obtain ⟨t0, r0, rfl, _⟩ := hk_some h22 (by decide); rfl
  have hblt := h.lt
  have HK := hide hK
  clear hK
  go_enter Tryz.func266, Tryz.ntmps266
  go_wp2_with (first | (go_at_call 191; refine (next_any b v ts _ _ h hs.1).mono ?_; rintro e w1 ⟨rfl, n1, rfl⟩; rw [HK.out]) | (go_at_call 193; refine (take_any b v ts _ _ (h.drewN n1) hs.1).mono ?_; rw [ht]; rintro e w2 ⟨rfl, hR2, hg2⟩; simp only [tokV]))
  have hG2 : w.grownBy w2 (some b) := (grownBy_drewN w n1 (some b)).trans hg2
  refine (hp w2 hR2 (hg.grown hG2 h8)).mono ?_
  rw [ho]
  rintro e w3 ⟨x1, rfl, hR3, hg3, hI3⟩
  have hG : w.grownBy w3 (some b) := hG2.trans hg3
  have hs3 := hG.size
  have hs2 := hG2.size
  clear ho ht
  go_wp2_with fail
  go_ret
  refine ⟨_, rfl, (hR3.alloc _).alloc _, (hG.trans (World.grownBy_alloc w3 _ _)).trans (World.grownBy_alloc _ _ _), fun r t ht => ?_⟩
  obtain ⟨x, hx, rfl⟩ := E2.out r t ht
  exact node_is (vs := [.pointer (some ⟨x1, 0, none⟩)]) rfl (by omega) (by show 1 ≤ 100; omega) (.cons ((hI3 x.1 x.2 hx).low hs2) .nil)
set_option maxHeartbeats 8000000 in
set_option maxRecDepth 100000 in
theorem cond_ex (b : Nat) (v : Value) (ts : List ByteArray) (c : Option (List ByteArray)) (K : Nat) (hK : hkc c = K) (o : Option (List ByteArray × Tr)) (w : World) (h : Rd w b v ts c) (hs : Sm ts) (hp : ∀ W : World, Rd W b v ts c → W.heap = w.heap → Calls Tryz.prog 355 #[.pointer (some ⟨b, 0, none⟩)] W (PartPost W b v ts o)) (h25 : K = 25) :
    Calls Tryz.prog 266 #[.pointer (some ⟨b, 0, none⟩)] w (PartPost w b v ts o) := by
  have f22 : ((K : Int) == 22) = false := by rw [beq_eq_false_iff_ne]; omega
  have f25 : ((K : Int) == 25) = true := by rw [beq_iff_eq]; omega
  have HK := hide hK
  clear hK
  go_enter Tryz.func266, Tryz.ntmps266
  go_wp2_with (first | (go_at_call 191; refine (next_any b v ts c _ h hs.1).mono ?_; rintro e w1 ⟨rfl, n1, rfl⟩; rw [HK.out]) | (go_at_call 355; refine (hp (w.drewN n1) (h.drewN n1) rfl).mono ?_; rintro e2 w2 ⟨x2, rfl, hR2, hg2, hI2⟩))
  go_ret
  exact PartPost.undrew ⟨x2, rfl, hR2, hg2, hI2⟩
set_option maxHeartbeats 8000000 in
set_option maxRecDepth 100000 in
theorem pcond_cmp (b : Nat) (v : Value) (ts : List ByteArray) (c : Option (List ByteArray)) (K : Nat) (hK : hkc c = K) (o : Option (List ByteArray × Tr)) (w : World) (h : Rd w b v ts c) (hs : Sm ts) (hp : ∀ W : World, Rd W b v ts c → W.heap = w.heap → Calls Tryz.prog 357 #[.pointer (some ⟨b, 0, none⟩)] W (PartPost W b v ts o)) (h22 : K ≠ 22) (h25 : K ≠ 25) (h4 : K ≠ 4) :
    Calls Tryz.prog 266 #[.pointer (some ⟨b, 0, none⟩)] w (PartPost w b v ts o) := by
  have f22 : ((K : Int) == 22) = false := by rw [beq_eq_false_iff_ne]; omega
  have f25 : ((K : Int) == 25) = false := by rw [beq_eq_false_iff_ne]; omega
  have f4 : ((K : Int) == 4) = false := by rw [beq_eq_false_iff_ne]; omega
  have HK := hide hK
  clear hK
  go_enter Tryz.func266, Tryz.ntmps266
  go_wp2_with (first | (go_at_call 191; refine (next_any b v ts c _ h hs.1).mono ?_; rintro e w1 ⟨rfl, n1, rfl⟩; rw [HK.out]) | (go_at_call 357; refine (hp (w.drewN n1) (h.drewN n1) rfl).mono ?_; rintro e2 w2 ⟨x2, rfl, hR2, hg2, hI2⟩))
  go_ret
  exact PartPost.undrew ⟨x2, rfl, hR2, hg2, hI2⟩
theorem PartPost.unbelow {w w1 w' : World} {b : Nat} {v : Value} {ts : List ByteArray} {o : Option (List ByteArray × Tr)} {e : Ending} (hb : Below w.heap.size w w1) (h : PartPost w1 b v ts o e w') : PartPost w b v ts o e w' := by
  obtain ⟨x, h1, h2, h3, h4⟩ := h
  refine ⟨x, h1, h2, (⟨hb.os, hb.tape, hb.output, hb.size, fun k hk _ => hb.block k hk⟩ : w.grownBy w1 (some b)).trans h3, fun r t ht => (h4 r t ht).low hb.size⟩
set_option maxHeartbeats 8000000 in
set_option maxRecDepth 100000 in
theorem cond_open (b : Nat) (v : Value) (ts l : List ByteArray) (o : Option (List ByteArray × Tr)) (w : World) (h : Rd w b v ts (some l)) (hs : Sm ts) (h4 : hk l = 4) (hno : opensL 0 (l.map kd) = false) (hp : ∀ W : World, Rd W b v ts (some l) → Below w.heap.size w W → Calls Tryz.prog 357 #[.pointer (some ⟨b, 0, none⟩)] W (PartPost W b v ts o)) :
    Calls Tryz.prog 266 #[.pointer (some ⟨b, 0, none⟩)] w (PartPost w b v ts o) := by
  have HK : Hid (hkc (some l) = 4) := hide h4
  have HN := hide hno
  clear hno
  go_enter Tryz.func266, Tryz.ntmps266
  go_wp2_with (first | (go_at_call 191; refine (next_any b v ts _ _ h hs.1).mono ?_; rintro e w1 ⟨rfl, n1, rfl⟩; rw [HK.out]) | (go_at_call 356; refine (opensCond_any b v ts l _ (h.drewN n1) hs h4).mono ?_; rintro e w2 ⟨rfl, hb2⟩; rw [HN.out]) | (go_at_call 357; refine (hp w2 ((h.drewN n1).below hb2) ((below_drewN _ w n1).trans hb2)).mono ?_; rintro e3 w3 ⟨x3, rfl, hR3, hg3, hI3⟩))
  go_ret
  exact PartPost.unbelow ((below_drewN _ w n1).trans hb2) ⟨x3, rfl, hR3, hg3, hI3⟩
set_option maxHeartbeats 8000000 in
set_option maxRecDepth 100000 in
theorem cond_join (P : List ByteArray → Option (List ByteArray × Tr)) (b : Nat) (v : Value) (ts l : List ByteArray) (w : World) (h : Rd w b v ts (some l)) (hs : Sm ts) (hg : Glob w) (h8 : 8 ≤ b) (h4 : hk l = 4) (hyes : opensL 0 (l.map kd) = true)
    (hp1 : PartAt 266 b v ts P (tkR 4 (some l))) (hp2 : PartAt 266 b v ts P (tailc (expC [20, 21] (((tkR 4 (some l)).bind P).map (·.1))))) :
    Calls Tryz.prog 266 #[.pointer (some ⟨b, 0, none⟩)] w (PartPost w b v ts (pairT P [20, 21] l)) := by
  have HK : Hid (hkc (some l) = 4) := hide h4
  have HN := hide hyes
  clear hyes
  have hbig := hg.big
  generalize ho : pairT P [20, 21] l = o
  have HP : ∀ W : World, Rd W b v ts (some l) → Below w.heap.size w W → Calls Tryz.prog 352 #[.pointer (some ⟨b, 0, none⟩), .func (.func 266) #[.pointer (some ⟨b, 0, none⟩)] #[], .slice (some ⟨W.heap.size, 0, none⟩) 2 2] (W.alloc (.cells #[.int .i64 20, .int .i64 21] 152)) (PartPost (W.alloc (.cells #[.int .i64 20, .int .i64 21] 152)) b v ts o) := by
    intro W hW hB
    rw [← ho]
    have hGW : Glob W := hg.below hB hbig
    have hKs := Ks.made W [20, 21] #[.int .i64 20, .int .i64 21] rfl (by decide)
    exact pair_cond P [20, 21] _ b v ts (some l) _ (hW.alloc _) hKs (hGW.below ((Below.refl W.heap.size _).alloc (Nat.le_refl _) _) hGW.big) hs h8 (by decide) (by decide) (by decide) hp1 hp2
  clear hp1 hp2 ho
  go_enter Tryz.func266, Tryz.ntmps266
  go_wp2_with (first | (go_at_call 191; refine (next_any b v ts _ _ h hs.1).mono ?_; rintro e w1 ⟨rfl, n1, rfl⟩; rw [HK.out]) | (go_at_call 356; refine (opensCond_any b v ts l _ (h.drewN n1) hs h4).mono ?_; rintro e w2 ⟨rfl, hb2⟩; rw [HN.out]))
  have hB := (below_drewN w.heap.size w n1).trans hb2
  refine (HP w2 ((h.drewN n1).below hb2) hB).mono ?_
  rintro e3 w3 ⟨x3, rfl, hR3, hg3, hI3⟩
  go_wp2_with fail
  go_ret
  exact PartPost.unbelow hB (PartPost.unalloc ⟨x3, rfl, hR3, hg3, hI3⟩)
end Go.Proofs.YtbkeflgafjnefaaGreatDoor
