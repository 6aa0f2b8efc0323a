/- Towards the law of tables: Pure8, Pure9, Pure12, Pure10, Pure13. -/
import Derived.Test.YtbkeflgafjnefaaGreatDoorM01
/- What the document's answer reads to the end the program reads too. No program is spoken of here. -/
namespace Trib
/-- From a place within, the scan says yes, and over the rest of the piece it is not decided yet. -/
def Odd (seg ks' : List Nat) : Prop := ∃ pre suf, seg = pre ++ suf ∧ jointL 0 (suf ++ ks') = true ∧ ∃ l : Int, 1 ≤ l ∧ ∀ rest, jointL 0 (suf ++ rest) = jointL l rest
theorem Odd.pre {seg ks' : List Nat} (h : Odd seg ks') (p : List Nat) : Odd (p ++ seg) ks' := by
  obtain ⟨a, b, e, h1, h2⟩ := h
  exact ⟨p ++ a, b, by rw [e, List.append_assoc], h1, h2⟩
theorem Odd.ext {seg mid ks' : List Nat} {g : Nat} (h : Odd seg (mid ++ ks')) (hm : Thru mid g) : Odd (seg ++ mid) ks' := by
  obtain ⟨a, b, e, h1, l, hl, h2⟩ := h
  refine ⟨a, b ++ mid, by rw [e, List.append_assoc], by rw [List.append_assoc]; exact h1, l + g, by omega, fun rest => ?_⟩
  rw [List.append_assoc, h2, hm l hl]
theorem jl_one_close (rest : List Nat) : jointL 1 (5 :: rest) = false := rfl
theorem Odd.close {seg ks' : List Nat} (h : Odd seg (5 :: ks')) : Odd (seg ++ [5]) ks' := by
  obtain ⟨a, b, e, h1, l, hl, h2⟩ := h
  have hl2 : 2 ≤ l := by
    rcases Int.lt_or_le l 2 with h' | h'
    · obtain rfl : l = 1 := by omega
      rw [h2, jl_one_close] at h1
      cases h1
    · exact h'
  refine ⟨a, b ++ [5], by rw [e, List.append_assoc], by rw [List.append_assoc]; exact h1, l - 1, by omega, fun rest => ?_⟩
  rw [List.append_assoc]
  show jointL 0 (b ++ 5 :: rest) = _
  rw [h2, jl_close hl2]
/-- What R reads is a piece that is e levels in excess; C reads it if e is 0; else it is odd. -/
def Back (f tag : Nat) : Prop := ∀ (ks ks' : List Nat) (m d : Int), R f tag ks d = some (ks', m) → ∃ seg e, ks = seg ++ ks' ∧ Thru seg e ∧ (e = 0 → ∃ n, C f tag ks = some (ks', n)) ∧ (1 ≤ e → Odd seg ks')
/-- A bracket with two conds in it and whatever token between. -/
theorem pair_back {s1 s2 k3 : List Nat} {e1 e2 X : Nat} (t1 : Thru s1 e1) (t2 : Thru s2 e2) (o2 : 1 ≤ e2 → Odd s2 (5 :: k3)) (hj : jointL 0 ((4 :: (s1 ++ X :: s2) ++ [5]) ++ k3) = true) :
    ∃ e, Thru (4 :: (s1 ++ X :: s2) ++ [5]) e ∧ (1 ≤ e → Odd (4 :: (s1 ++ X :: s2) ++ [5]) k3) ∧ (e = 0 → e1 = 0 ∧ e2 = 0 ∧ (X = 20 ∨ X = 21)) := by
  have scan0 : ∀ rest, jointL 0 ((4 :: (s1 ++ X :: s2) ++ [5]) ++ rest) = jointL (1 + e1) (X :: (s2 ++ 5 :: rest)) := fun rest => by
    show jointL 0 (4 :: (((s1 ++ X :: s2) ++ [5]) ++ rest)) = _
    rw [jl_open (by omega), List.append_assoc, List.append_assoc, t1 (0 + 1) (by omega)]
    rfl
  have scan : ∀ l : Int, 1 ≤ l → ∀ rest, jointL l ((4 :: (s1 ++ X :: s2) ++ [5]) ++ rest) = jointL (l + 1 + e1) (X :: (s2 ++ 5 :: rest)) := fun l hl rest => by
    show jointL l (4 :: (((s1 ++ X :: s2) ++ [5]) ++ rest)) = _
    rw [jl_open (by omega), List.append_assoc, List.append_assoc, t1 (l + 1) (by omega)]
    rfl
  by_cases x4 : X = 4
  · subst x4
    have T : Thru (4 :: (s1 ++ 4 :: s2) ++ [5]) (1 + e1 + e2) := fun l hl rest => by
      rw [scan l hl, jl_open (by omega), t2 _ (by omega), jl_close (by omega)]; congr 1; omega
    refine ⟨_, T, fun _ => ⟨[], 4 :: (s1 ++ 4 :: s2) ++ [5], rfl, hj, 1 + e1 + e2, by omega, fun rest => ?_⟩, fun e => by omega⟩
    rw [scan0, jl_open (by omega), t2 _ (by omega), jl_close (by omega)]; congr 1; omega
  by_cases x5 : X = 5
  · subst x5
    have h1 : 1 ≤ e1 := by
      rcases Nat.eq_zero_or_pos e1 with rfl | h
      · rw [scan0] at hj; exact absurd hj (by rw [show (1 : Int) + ((0 : Nat) : Int) = 1 by omega, jl_one_close]; simp)
      · exact h
    have h2 : 2 ≤ e1 + e2 := by
      rcases Nat.lt_or_ge (e1 + e2) 2 with h' | h'
      · rw [scan0, jl_close (by omega), t2 _ (by omega), show (1 : Int) + e1 - 1 + e2 = 1 by omega, jl_one_close] at hj; cases hj
      · exact h'
    have T : Thru (4 :: (s1 ++ 5 :: s2) ++ [5]) (e1 + e2 - 1) := fun l hl rest => by
      rw [scan l hl, jl_close (by omega), t2 _ (by omega), jl_close (by omega)]; congr 1; omega
    refine ⟨_, T, fun _ => ⟨[], 4 :: (s1 ++ 5 :: s2) ++ [5], rfl, hj, e1 + e2 - 1, by omega, fun rest => ?_⟩, fun e => by omega⟩
    rw [scan0, jl_close (by omega), t2 _ (by omega), jl_close (by omega)]; congr 1; omega
  by_cases xj : X = 20 ∨ X = 21
  · have T := Thru.pair xj t1 t2
    refine ⟨_, T, fun he => ?_, fun e => ⟨by omega, by omega, xj⟩⟩
    rcases Nat.eq_zero_or_pos e1 with h0 | h1
    · have := (o2 (by omega)).close.pre (4 :: (s1 ++ [X]))
      have e : (4 :: (s1 ++ [X])) ++ (s2 ++ [5]) = 4 :: (s1 ++ X :: s2) ++ [5] := by simp
      rw [e] at this; exact this
    · refine ⟨[], 4 :: (s1 ++ X :: s2) ++ [5], rfl, hj, e1 + e2, by omega, fun rest => ?_⟩
      rw [scan0, jl_and xj (by omega), t2 _ (by omega), jl_close (by omega)]; congr 1; omega
  · have hx : X ≠ 20 ∧ X ≠ 21 := ⟨fun e => xj (Or.inl e), fun e => xj (Or.inr e)⟩
    have h2 : 1 ≤ e1 + e2 := by
      rcases Nat.eq_zero_or_pos (e1 + e2) with h' | h'
      · rw [scan0, jl_plain x4 x5 hx.1 hx.2 (by omega), t2 _ (by omega), show (1 : Int) + e1 + e2 = 1 by omega, jl_one_close] at hj; cases hj
      · exact h'
    have T : Thru (4 :: (s1 ++ X :: s2) ++ [5]) (e1 + e2) := fun l hl rest => by
      rw [scan l hl, jl_plain x4 x5 hx.1 hx.2 (by omega), t2 _ (by omega), jl_close (by omega)]; congr 1; omega
    refine ⟨_, T, fun _ => ⟨[], 4 :: (s1 ++ X :: s2) ++ [5], rfl, hj, e1 + e2, by omega, fun rest => ?_⟩, fun e => by omega⟩
    rw [scan0, jl_plain x4 x5 hx.1 hx.2 (by omega), t2 _ (by omega), jl_close (by omega)]; congr 1; omega
theorem cond_back (f : Nat) (hc : Back f 1) (hq : Back f 2) : Back (f + 1) 1 := by
  intro ks ks' m d h
  rw [R] at h
  by_cases h22 : ks.headD 0 = 22
  · rw [if_pos h22] at h
    obtain ⟨x, hx, h⟩ := Option.bind_eq_some_iff.1 h
    obtain ⟨rfl, _⟩ : x.1 = ks' ∧ _ := by simpa using h
    obtain ⟨s1, e1, k1, t1, c1, o1⟩ := hc _ _ _ _ hx
    refine ⟨[22] ++ s1, e1, by rw [head_some' h22 (by decide), k1]; rfl, by simpa using (Thru.one (k := 22) (by decide) (by decide) (by decide) (by decide)).app t1, fun e => ?_, fun e => (o1 e).pre _⟩
    obtain ⟨n, hn⟩ := c1 e
    exact ⟨_, by rw [C, if_pos h22, hn]; rfl⟩
  rw [if_neg h22] at h
  by_cases h25 : ks.headD 0 = 25
  · rw [if_pos h25] at h
    obtain ⟨k1, hk1, h⟩ := Option.bind_eq_some_iff.1 h
    obtain ⟨x, hx, h⟩ := Option.bind_eq_some_iff.1 h
    obtain ⟨k3, h5, h⟩ := Option.bind_eq_some_iff.1 h
    obtain ⟨rfl, _⟩ : k3 = ks' ∧ _ := by simpa using h
    obtain ⟨s1, e1, kk, t1, c1, o1⟩ := hq _ _ _ _ hx
    refine ⟨[25] ++ (4 :: s1 ++ [5]), e1, by rw [head_some' h25 (by decide), must_some hk1, kk, must_some h5]; simp, by simpa using (Thru.one (k := 25) (by decide) (by decide) (by decide) (by decide)).app t1.bracket, fun e => ?_, fun e => ?_⟩
    · obtain ⟨n, hn⟩ := c1 e
      exact ⟨_, by rw [C, if_neg h22, if_pos h25, hk1, Option.bind_some, hn, Option.bind_some, h5]; rfl⟩
    · have o := o1 e
      rw [must_some h5] at o
      have := o.close.pre [25, 4]
      simpa using this
  rw [if_neg h25] at h
  by_cases hjt : ks.headD 0 = 4 ∧ jointL 0 ks = true
  · rw [if_pos hjt] at h
    obtain ⟨x, hx, h⟩ := Option.bind_eq_some_iff.1 h
    by_cases he : x.1 = []
    · rw [if_pos he] at h; cases h
    rw [if_neg he] at h
    obtain ⟨y, hy, h⟩ := Option.bind_eq_some_iff.1 h
    obtain ⟨k3, h5, h⟩ := Option.bind_eq_some_iff.1 h
    obtain ⟨rfl, _⟩ : k3 = ks' ∧ _ := by simpa using h
    obtain ⟨s1, e1, kk1, t1, c1, _⟩ := hc _ _ _ _ hx
    obtain ⟨s2, e2, kk2, t2, c2, o2⟩ := hc _ _ _ _ hy
    obtain ⟨X, r, hX⟩ : ∃ X r, x.1 = X :: r := by
      cases hh : x.1 with
      | nil => exact absurd hh he
      | cons X r => exact ⟨X, r, rfl⟩
    have hr : x.1.tail = r := by rw [hX]; rfl
    have h5' := must_some h5
    rw [h5'] at o2
    have e : ks = (4 :: (s1 ++ X :: s2) ++ [5]) ++ k3 := by
      rw [head_some' hjt.1 (by decide), kk1, hX, ← hr, kk2, h5']; simp
    obtain ⟨g, T, O, Z⟩ := pair_back t1 t2 o2 (by rw [← e]; exact hjt.2)
    refine ⟨_, g, e, T, fun e0 => ?_, O⟩
    obtain ⟨z1, z2, hXj⟩ := Z e0
    obtain ⟨n1, hn1⟩ := c1 z1
    obtain ⟨n2, hn2⟩ := c2 z2
    refine ⟨_, by rw [C, if_neg h22, if_neg h25, if_pos ⟨hjt.1, joint_opens _ _ hjt.2⟩, hn1, Option.bind_some, if_pos (by rw [hX]; exact hXj), hn2, Option.bind_some, h5]; rfl⟩
  rw [if_neg hjt] at h
  by_cases hne : ks = []
  · rw [if_pos hne] at h; cases h
  rw [if_neg hne] at h
  obtain ⟨x, hx, h⟩ := Option.bind_eq_some_iff.1 h
  rw [expr_alike] at hx
  obtain ⟨x', hx', ex⟩ := Option.map_eq_some_iff.1 hx
  have ex1 : x.1 = x'.1 := by rw [← ex]; rfl
  obtain ⟨s1, kk1, t1, _, ho⟩ := expr_thru _ _ _ _ hx'
  have hop : ¬ (ks.headD 0 = 4 ∧ opensL 0 ks = true) := fun e => by rw [ho e.1] at e; exact absurd e.2 (by simp)
  rw [ex1] at h
  by_cases hcp : x'.1.headD 0 = 8 ∨ x'.1.headD 0 = 9 ∨ x'.1.headD 0 = 10
  · rw [if_pos hcp] at h
    obtain ⟨y, hy, h⟩ := Option.bind_eq_some_iff.1 h
    obtain ⟨rfl, _⟩ : y.1 = ks' ∧ _ := by simpa using h
    rw [expr_alike] at hy
    obtain ⟨y', hy', ey⟩ := Option.map_eq_some_iff.1 hy
    have ey1 : y.1 = y'.1 := by rw [← ey]; rfl
    obtain ⟨s2, kk2, t2, _, _⟩ := expr_thru _ _ _ _ hy'
    obtain ⟨k, hk⟩ : ∃ k, x'.1.headD 0 = k := ⟨_, rfl⟩
    refine ⟨s1 ++ [k] ++ s2, 0, by rw [kk1, head_some' hk (by omega), kk2, ey1]; simp, (t1.app (Thru.one (k := k) (by omega) (by omega) (by omega) (by omega))).app t2, fun _ => ?_, fun e => by omega⟩
    exact ⟨_, by rw [C, if_neg h22, if_neg h25, if_neg hop, hx', Option.bind_some, if_neg (by omega), if_pos hcp, hy', ey1]; rfl⟩
  rw [if_neg hcp] at h
  by_cases h23 : x'.1.headD 0 = 23
  · rw [if_pos h23] at h
    obtain ⟨k3, h24, h⟩ := Option.bind_eq_some_iff.1 h
    obtain ⟨rfl, _⟩ : k3 = ks' ∧ _ := by simpa using h
    refine ⟨s1 ++ [23] ++ [24], 0, by rw [kk1, head_some' h23 (by decide), must_some h24]; simp, (t1.app (Thru.one (k := 23) (by decide) (by decide) (by decide) (by decide))).app (Thru.one (k := 24) (by decide) (by decide) (by decide) (by decide)), fun _ => ?_, fun e => by omega⟩
    exact ⟨_, by rw [C, if_neg h22, if_neg h25, if_neg hop, hx', Option.bind_some, if_pos h23, h24]; rfl⟩
  · rw [if_neg h23] at h; cases h
theorem opt_back {f k : Nat} (hk0 : k ≠ 0) (h4 : k ≠ 4) (h5 : k ≠ 5) (h20 : k ≠ 20) (h21 : k ≠ 21) (hc : Back f 1) {ks : List Nat} {d d0 : Int} {y : List Nat × Int} (h : (if ks.headD 0 = k then R f 1 ks.tail d else some (ks, d0)) = some y) :
    ∃ seg e, ks = seg ++ y.1 ∧ Thru seg e ∧ (e = 0 → ∃ n, (if ks.headD 0 = k then C f 1 ks.tail else some (ks, 0)) = some (y.1, n)) ∧ (1 ≤ e → Odd seg y.1) := by
  by_cases e : ks.headD 0 = k
  · rw [if_pos e] at h ⊢
    obtain ⟨s1, e1, k1, t1, c1, o1⟩ := hc _ _ _ _ h
    exact ⟨[k] ++ s1, e1, by rw [head_some' e hk0, k1]; rfl, by simpa using (Thru.one h4 h5 h20 h21).app t1, c1, fun e => (o1 e).pre _⟩
  · rw [if_neg e] at h ⊢
    obtain rfl := Option.some.inj h
    exact ⟨[], 0, rfl, Thru.nil, fun _ => ⟨0, rfl⟩, fun e => by omega⟩
theorem query_back (f : Nat) (hc : Back f 1) : Back (f + 1) 2 := by
  intro ks ks' m d h
  rw [R] at h
  obtain ⟨k0, h14, h⟩ := Option.bind_eq_some_iff.1 h
  obtain ⟨x, hx, h⟩ := Option.bind_eq_some_iff.1 h
  obtain ⟨k2, h15, h⟩ := Option.bind_eq_some_iff.1 h
  obtain ⟨k3, hs, h⟩ := Option.bind_eq_some_iff.1 h
  obtain ⟨y, hy, h⟩ := Option.bind_eq_some_iff.1 h
  obtain ⟨k5, hg, h⟩ := Option.bind_eq_some_iff.1 h
  obtain ⟨z, hz, h⟩ := Option.bind_eq_some_iff.1 h
  obtain ⟨rfl, _⟩ : z.1 = ks' ∧ _ := by simpa using h
  rw [exprs_alike] at hx
  obtain ⟨x', hx', ex⟩ := Option.map_eq_some_iff.1 hx
  have ex1 : x.1 = x'.1 := by rw [← ex]; rfl
  rw [ex1] at h15
  obtain ⟨s1, e1, t1⟩ := exprs_thru _ _ _ _ hx'
  obtain ⟨s2, e2, t2⟩ := srcs_thru _ _ _ hs
  obtain ⟨s3, g3, e3, t3, c3, o3⟩ := opt_back (by decide) (by decide) (by decide) (by decide) (by decide) hc hy
  obtain ⟨s5, g5, e5, t5, c5, o5⟩ := opt_back (by decide) (by decide) (by decide) (by decide) (by decide) hc hz
  have hgs : ∃ seg, y.1 = seg ++ k5 ∧ Thru seg 0 := by
    by_cases e17 : y.1.headD 0 = 17
    · rw [if_pos e17] at hg
      obtain ⟨k4, h18, hg⟩ := Option.bind_eq_some_iff.1 hg
      obtain ⟨s4, e4, t4⟩ := cols_thru _ _ _ hg
      refine ⟨[17] ++ [18] ++ s4, by rw [head_some' e17 (by decide), must_some h18, e4]; simp, ?_⟩
      exact ((Thru.one (k := 17) (by decide) (by decide) (by decide) (by decide)).app (Thru.one (k := 18) (by decide) (by decide) (by decide) (by decide))).app t4
    · rw [if_neg e17] at hg
      obtain rfl := Option.some.inj hg
      exact ⟨[], rfl, Thru.nil⟩
  obtain ⟨s4, e4, t4⟩ := hgs
  refine ⟨([14] ++ s1 ++ [15] ++ s2) ++ ((s3 ++ s4) ++ s5), g3 + g5, ?_, ?_, fun e => ?_, fun e => ?_⟩
  · rw [must_some h14, e1, must_some h15, e2, e3, e4, e5]; simp
  · have T := ((((Thru.one (k := 14) (by decide) (by decide) (by decide) (by decide)).app t1).app (Thru.one (k := 15) (by decide) (by decide) (by decide) (by decide))).app t2).app ((t3.app t4).app t5)
    simpa using T
  · obtain ⟨n3, hn3⟩ := c3 (by omega)
    obtain ⟨n5, hn5⟩ := c5 (by omega)
    exact ⟨_, by rw [C, h14, Option.bind_some, hx', Option.bind_some, h15, Option.bind_some, hs, Option.bind_some, hn3, Option.bind_some, hg, Option.bind_some, hn5]; rfl⟩
  · rcases Nat.eq_zero_or_pos g5 with h0 | h1
    · have o := o3 (by omega)
      rw [e4, e5] at o
      have o' : Odd s3 ((s4 ++ s5) ++ z.1) := by rw [List.append_assoc]; exact o
      have := (o'.ext (t4.app t5)).pre ([14] ++ s1 ++ [15] ++ s2)
      rw [← List.append_assoc s3] at this
      exact this
    · have := ((o5 h1).pre (s3 ++ s4)).pre ([14] ++ s1 ++ [15] ++ s2)
      exact this
theorem all_back : ∀ f, Back f 1 ∧ Back f 2 := by
  intro f
  induction f with
  | zero => exact ⟨(fun ks ks' m d h => by cases h), (fun ks ks' m d h => by cases h)⟩
  | succ f ih => exact ⟨cond_back f ih.1 ih.2, query_back f ih.1⟩
/-- A whole text is a query to both or to neither, and to the same depth. -/
theorem whole_alike (f : Nat) (ks : List Nat) : (match R f 2 ks 1 with | some ([], m) => if m > 6 then 2 else 0 | _ => 1) = (match C f 2 ks with | some ([], n) => if n > 6 then 2 else 0 | _ => 1 : Nat) := by
  cases hC : C f 2 ks with
  | some x =>
    obtain ⟨k, n⟩ := x
    rw [((all_alike f).2 _ _ _ hC).2 1]
    cases k with
    | nil =>
      show (if (1 : Int) + n - 1 > 6 then 2 else 0) = (if n > 6 then 2 else 0)
      by_cases h : n > 6
      · rw [if_pos h, if_pos (by omega)]
      · rw [if_neg h, if_neg (by omega)]
    | cons a r => rfl
  | none =>
    cases hR : R f 2 ks 1 with
    | none => rfl
    | some x =>
      obtain ⟨k, m⟩ := x
      cases k with
      | cons a r => rfl
      | nil =>
        obtain ⟨seg, e, _, _, c, o⟩ := (all_back f).2 _ _ _ _ hR
        rcases Nat.eq_zero_or_pos e with h0 | h1
        · obtain ⟨n, hn⟩ := c h0
          rw [hC] at hn; cases hn
        · obtain ⟨a, b, _, h1', l, _, h2'⟩ := o h1
          rw [h2'] at h1'
          cases h1'
end Trib
/- Plain functions: the values that texts say, the trees that the program's reading makes of tokens; that their depth is the one of Pure5. No program is spoken of here. -/
namespace Trib
/-- A value: its kind (0 null, 1 a number, 2 a word), the number, the word. -/
structure Vl where
  kind : Nat
  num : Int
  word : List UInt8
def Vl.zero : Vl := ⟨0, 0, []⟩
/-- What reading a value gives, and whether it is one. -/
def valRes (s : List UInt8) : Vl × Bool :=
  if s = [110, 117, 108, 108] then (Vl.zero, true)
  else if s.head? = some 39 then (if s.tail.getLast? = some 39 ∧ wordB s.tail.dropLast = true then (⟨2, 0, s.tail.dropLast⟩, true) else (Vl.zero, false))
  else if (numRes s).2 then (⟨1, (numRes s).1, []⟩, true) else (Vl.zero, false)
/-- Trees: lists, nodes (kind, source, name, value, parts, query) and queries (exprs, sources, where, group, having). -/
inductive Tr where
  | nil
  | cons (h t : Tr)
  | node (kind : Nat) (src name : ByteArray) (val : Vl) (parts query : Tr)
  | query (exprs : Tr) (sources : List (ByteArray × ByteArray)) (wh group having : Tr)
/-- How deep it is by itself. -/
def dep : Tr → Nat
  | .nil => 0
  | .cons h t => max (dep h) (dep t)
  | .node _ _ _ _ p .nil => 1 + dep p
  | .node _ _ _ _ _ q => 1 + dep q
  | .query e _ w g h => 1 + max (dep e) (max (dep g) (max (dep w) (dep h)))
/-- A node of a kind with parts. -/
def nodeT (k : Nat) (parts : Tr) : Tr := .node k ⟨#[]⟩ ⟨#[]⟩ Vl.zero parts .nil
/-- The kind of a token. -/
def kd (t : ByteArray) : Nat := kindOf t.data.toList
/-- The next token's kind. -/
def hk (ts : List ByteArray) : Nat := (ts.map kd).headD 0
/-- The node that a token alone tells. -/
def kindsL : List Nat := [0, 0, 0, 0, 0, 0, 0, 0, 16, 17, 18, 4, 5, 6, 0, 0, 0, 0, 0, 0, 12, 13, 0, 0, 0, 0, 8, 9, 10, 11]
def takeT (k : Nat) : List ByteArray → Option (ByteArray × List ByteArray)
  | [] => none
  | h :: r => if kd h = k then some (h, r) else none
def colT (ts : List ByteArray) : Option (List ByteArray × Tr) := (takeT 1 ts).bind fun a => (takeT 7 a.2).bind fun d => (takeT 1 d.2).bind fun b => some (b.2, .node 1 a.1 b.1 Vl.zero .nil .nil)
def srcT (ts : List ByteArray) : Option (List ByteArray × (ByteArray × ByteArray)) := (takeT 1 ts).bind fun a => (takeT 1 a.2).bind fun b => some (b.2, (a.1, b.1))
def srcsT : Nat → List ByteArray → Option (List ByteArray × List (ByteArray × ByteArray))
  | 0, _ => none
  | f + 1, ts => (srcT ts).bind fun x => if hk x.1 = 6 then (srcsT f x.1.tail).bind fun y => some (y.1, x.2 :: y.2) else some (x.1, [x.2])
/-- Parts with a comma between; the n-th way of reading one where n more may come. -/
def listG (P : Nat → List ByteArray → Option (List ByteArray × Tr)) : Nat → List ByteArray → Option (List ByteArray × Tr)
  | 0, _ => none
  | f + 1, ts => (P f ts).bind fun x => if hk x.1 = 6 then (listG P f x.1.tail).bind fun y => some (y.1, .cons x.2 y.2) else some (x.1, .cons x.2 .nil)
/-- One part: 0 an expr, 1 a cond, 2 a query, 3 exprs with a comma between: what is left behind it, and the tree. -/
def CT : Nat → Nat → List ByteArray → Option (List ByteArray × Tr)
  | 0, _, _ => none
  | f + 1, 0, ts =>
    if hk ts = 1 then colT ts
    else if hk ts = 30 then some (ts.tail, nodeT 3 .nil)
    else if hk ts = 4 then
      (CT f 0 ts.tail).bind fun x => if hk x.1 = 11 ∨ hk x.1 = 12 ∨ hk x.1 = 13 then
        (CT f 0 x.1.tail).bind fun y => (takeT 5 y.1).bind fun z => some (z.2, nodeT (kindsL.getD (hk x.1) 0) (.cons x.2 (.cons y.2 .nil))) else none
    else if 26 ≤ hk ts ∧ hk ts ≤ 29 then
      (takeT 4 ts.tail).bind fun a => if hk ts = 26 ∧ hk a.2 = 13 then (takeT 5 a.2.tail).bind fun z => some (z.2, nodeT 7 .nil)
        else (CT f 0 a.2).bind fun x => (takeT 5 x.1).bind fun z => some (z.2, nodeT (kindsL.getD (hk ts) 0) (.cons x.2 .nil))
    else if hk ts = 2 ∨ hk ts = 3 ∨ hk ts = 24 then some (ts.tail, .node 2 ⟨#[]⟩ ⟨#[]⟩ (valRes (ts.headD ⟨#[]⟩).data.toList).1 .nil .nil)
    else none
  | f + 1, 1, ts =>
    if hk ts = 22 then (CT f 1 ts.tail).bind fun x => some (x.1, nodeT 14 (.cons x.2 .nil))
    else if hk ts = 25 then (takeT 4 ts.tail).bind fun a => (CT f 2 a.2).bind fun x => (takeT 5 x.1).bind fun z => some (z.2, .node 15 ⟨#[]⟩ ⟨#[]⟩ Vl.zero .nil x.2)
    else if hk ts = 4 ∧ opensL 0 (ts.map kd) = true then
      (CT f 1 ts.tail).bind fun x => if hk x.1 = 20 ∨ hk x.1 = 21 then (CT f 1 x.1.tail).bind fun y => (takeT 5 y.1).bind fun z => some (z.2, nodeT (kindsL.getD (hk x.1) 0) (.cons x.2 (.cons y.2 .nil))) else none
    else (CT f 0 ts).bind fun x =>
      if hk x.1 = 23 then (takeT 24 x.1.tail).bind fun z => some (z.2, nodeT 19 (.cons x.2 .nil))
      else if hk x.1 = 8 ∨ hk x.1 = 9 ∨ hk x.1 = 10 then (CT f 0 x.1.tail).bind fun y => some (y.1, nodeT (kindsL.getD (hk x.1) 0) (.cons x.2 (.cons y.2 .nil))) else none
  | f + 1, 2, ts =>
    (takeT 14 ts).bind fun a => (CT f 3 a.2).bind fun x => (takeT 15 x.1).bind fun b => (srcsT (b.2.length + 1) b.2).bind fun s =>
    (if hk s.1 = 16 then CT f 1 s.1.tail else some (s.1, .nil)).bind fun y =>
    (if hk y.1 = 17 then (takeT 18 y.1.tail).bind fun c => listG (fun _ => colT) (c.2.length + 1) c.2 else some (y.1, .nil)).bind fun g =>
    (if hk g.1 = 19 then CT f 1 g.1.tail else some (g.1, .nil)).bind fun z => some (z.1, .query x.2 s.2 y.2 g.2 z.2)
  | f + 1, 3, ts => (CT f 0 ts).bind fun x => if hk x.1 = 6 then (CT f 3 x.1.tail).bind fun y => some (y.1, .cons x.2 y.2) else some (x.1, .cons x.2 .nil)
  | _ + 1, _ + 4, _ => none

/-- A tree told by what is left and how deep it is. -/
def er (x : List ByteArray × Tr) : List Nat × Nat := (x.1.map kd, dep x.2)
theorem hk_map (ts : List ByteArray) : (ts.map kd).headD 0 = hk ts := rfl
theorem tl_map (ts : List ByteArray) : (ts.map kd).tail = ts.tail.map kd := by cases ts <;> rfl
theorem must_take (k : Nat) (ts : List ByteArray) : must k (ts.map kd) = (takeT k ts).map fun x => x.2.map kd := by
  cases ts with
  | nil => rfl
  | cons h r => simp only [List.map_cons, must, takeT]; split <;> rfl
theorem col_er (ts : List ByteArray) : colP (ts.map kd) = (colT ts).map fun x => x.1.map kd := by
  rw [colP, colT, must_take]
  cases takeT 1 ts with
  | none => rfl
  | some a =>
    simp only [Option.map_some, Option.bind_some, must_take]
    cases takeT 7 a.2 with
    | none => rfl
    | some d =>
      simp only [Option.map_some, Option.bind_some, must_take]
      cases takeT 1 d.2 with
      | none => rfl
      | some b => rfl
theorem col_dep {ts : List ByteArray} {x : List ByteArray × Tr} (h : colT ts = some x) : dep x.2 = 1 := by
  unfold colT at h
  obtain ⟨a, _, h⟩ := Option.bind_eq_some_iff.1 h
  obtain ⟨b, _, h⟩ := Option.bind_eq_some_iff.1 h
  obtain ⟨c, _, h⟩ := Option.bind_eq_some_iff.1 h
  obtain rfl := Option.some.inj h
  rfl
theorem if_comma (b : List Nat) (g : List Nat → Option (List Nat)) : (match b with | 6 :: r => g r | _ => some b) = if b.headD 0 = 6 then g b.tail else some b := by
  match b with
  | [] => rfl
  | a :: r =>
    by_cases e : a = 6
    · subst e; rfl
    · rw [if_neg (by exact e)]
      split
      · rename_i h; exact absurd (List.cons.inj h).1 e
      · rfl
theorem src_er (f : Nat) : ∀ ts : List ByteArray, srcsP f (ts.map kd) = (srcsT f ts).map fun x => x.1.map kd := by
  induction f with
  | zero => intro ts; rfl
  | succ f ih =>
    intro ts
    rw [srcsP, srcsT, srcT, must_take]
    cases takeT 1 ts with
    | none => rfl
    | some a =>
      simp only [Option.map_some, Option.bind_some, must_take]
      cases takeT 1 a.2 with
      | none => rfl
      | some b =>
        simp only [Option.map_some, Option.bind_some]
        refine (if_comma _ _).trans ?_
        rw [hk_map]
        by_cases e : hk b.2 = 6
        · rw [if_pos e, if_pos e, tl_map, ih]
          cases srcsT f b.2.tail <;> rfl
        · rw [if_neg e, if_neg e]; rfl
theorem cols_er (f : Nat) : ∀ ts : List ByteArray, colsP f (ts.map kd) = (listG (fun _ => colT) f ts).map fun x => x.1.map kd := by
  induction f with
  | zero => intro ts; rfl
  | succ f ih =>
    intro ts
    rw [colsP, listG, col_er]
    cases colT ts with
    | none => rfl
    | some x =>
      simp only [Option.map_some, Option.bind_some]
      refine (if_comma _ _).trans ?_
      rw [hk_map]
      by_cases e : hk x.1 = 6
      · rw [if_pos e, if_pos e, tl_map, ih]
        cases listG (fun _ => colT) f x.1.tail <;> rfl
      · rw [if_neg e, if_neg e]; rfl
theorem cols_dep (f : Nat) : ∀ (ts : List ByteArray) (x : List ByteArray × Tr), listG (fun _ => colT) f ts = some x → dep x.2 = 1 := by
  induction f with
  | zero => intro ts x h; cases h
  | succ f ih =>
    intro ts x h
    rw [listG] at h
    obtain ⟨a, ha, h⟩ := Option.bind_eq_some_iff.1 h
    have h1 := col_dep ha
    split at h
    · obtain ⟨y, hy, h⟩ := Option.bind_eq_some_iff.1 h
      have h2 := ih _ _ hy
      obtain rfl := Option.some.inj h
      show max (dep a.2) (dep y.2) = 1
      omega
    · obtain rfl := Option.some.inj h
      show max (dep a.2) 0 = 1
      omega
theorem dep_nodeT (k : Nat) (p : Tr) : dep (nodeT k p) = 1 + dep p := by rw [nodeT, dep]
theorem dep_two (a b : Tr) : dep (.cons a (.cons b .nil)) = max (dep a) (dep b) := by simp [dep]
theorem dep_one (a : Tr) : dep (.cons a .nil) = dep a := by simp [dep]
/-- Every query is one. -/
theorem CT_query {f : Nat} {ts : List ByteArray} {x : List ByteArray × Tr} (h : CT f 2 ts = some x) : ∃ e s w g z, x.2 = .query e s w g z := by
  match f, h with
  | f + 1, h =>
    rw [CT] at h
    obtain ⟨a, _, h⟩ := Option.bind_eq_some_iff.1 h
    obtain ⟨b, _, h⟩ := Option.bind_eq_some_iff.1 h
    obtain ⟨c, _, h⟩ := Option.bind_eq_some_iff.1 h
    obtain ⟨d, _, h⟩ := Option.bind_eq_some_iff.1 h
    obtain ⟨e, _, h⟩ := Option.bind_eq_some_iff.1 h
    obtain ⟨g, _, h⟩ := Option.bind_eq_some_iff.1 h
    obtain ⟨z, _, h⟩ := Option.bind_eq_some_iff.1 h
    obtain rfl := Option.some.inj h
    exact ⟨_, _, _, _, _, rfl⟩
theorem dep_exists {q : Tr} (h : ∃ e s w g z, q = .query e s w g z) : dep (.node 15 ⟨#[]⟩ ⟨#[]⟩ Vl.zero .nil q) = 1 + dep q := by
  obtain ⟨e, s, w, g, z, rfl⟩ := h
  rfl
/-- An expr is not of depth 0, and neither is a list of some. -/
theorem expr_pos : ∀ f, (∀ ts x, CT f 0 ts = some x → 1 ≤ dep x.2) ∧ (∀ ts x, CT f 3 ts = some x → 1 ≤ dep x.2) := by
  intro f
  induction f with
  | zero => exact ⟨(fun ts x h => by cases h), (fun ts x h => by cases h)⟩
  | succ f ih =>
    refine ⟨fun ts x h => ?_, fun ts x h => ?_⟩
    · rw [CT] at h
      split at h
      · rw [col_dep h]; exact Nat.le_refl _
      split at h
      · obtain rfl := Option.some.inj h; rw [dep_nodeT]; omega
      split at h
      · obtain ⟨a, _, h⟩ := Option.bind_eq_some_iff.1 h
        split at h
        · obtain ⟨b, _, h⟩ := Option.bind_eq_some_iff.1 h
          obtain ⟨c, _, h⟩ := Option.bind_eq_some_iff.1 h
          obtain rfl := Option.some.inj h; rw [dep_nodeT]; omega
        · cases h
      split at h
      · obtain ⟨a, _, h⟩ := Option.bind_eq_some_iff.1 h
        split at h
        · obtain ⟨c, _, h⟩ := Option.bind_eq_some_iff.1 h
          obtain rfl := Option.some.inj h; rw [dep_nodeT]; omega
        · obtain ⟨b, _, h⟩ := Option.bind_eq_some_iff.1 h
          obtain ⟨c, _, h⟩ := Option.bind_eq_some_iff.1 h
          obtain rfl := Option.some.inj h; rw [dep_nodeT]; omega
      split at h
      · obtain rfl := Option.some.inj h; show 1 ≤ 1 + dep .nil; omega
      · cases h
    · rw [CT] at h
      obtain ⟨a, ha, h⟩ := Option.bind_eq_some_iff.1 h
      have h1 := ih.1 _ _ ha
      split at h
      · obtain ⟨b, hb, h⟩ := Option.bind_eq_some_iff.1 h
        have h2 := ih.2 _ _ hb
        obtain rfl := Option.some.inj h
        show 1 ≤ max (dep a.2) (dep b.2); omega
      · obtain rfl := Option.some.inj h
        show 1 ≤ max (dep a.2) 0; omega
/-- The trees and the depths go alike. -/
theorem CT_er : ∀ (f tag : Nat) (ts : List ByteArray), C f tag (ts.map kd) = (CT f tag ts).map er := by
  intro f
  induction f with
  | zero => intro tag ts; rfl
  | succ f ih =>
    intro tag ts
    match tag with
    | 0 =>
      rw [C, CT]
      simp only [hk_map, tl_map, ih, must_take]
      split
      · rw [col_er]
        cases hc : colT ts with
        | none => rfl
        | some x => simp [er, col_dep hc]
      split
      · simp [er, dep_nodeT, dep]
      split
      · cases CT f 0 ts.tail with
        | none => rfl
        | some x =>
          simp only [Option.map_some, Option.bind_some, er, hk_map, tl_map, ih]
          split
          · cases CT f 0 x.1.tail with
            | none => rfl
            | some y =>
              simp only [Option.map_some, Option.bind_some, er, must_take]
              cases takeT 5 y.1 with
              | none => rfl
              | some z => simp [er, dep_nodeT, dep_two]
          · rfl
      split
      · cases takeT 4 ts.tail with
        | none => rfl
        | some a =>
          simp only [Option.map_some, Option.bind_some, hk_map, tl_map, ih, must_take]
          split
          · cases takeT 5 a.2.tail with
            | none => rfl
            | some z => simp [er, dep_nodeT, dep]
          · cases CT f 0 a.2 with
            | none => rfl
            | some x =>
              simp only [Option.map_some, Option.bind_some, er, must_take]
              cases takeT 5 x.1 with
              | none => rfl
              | some z => simp [er, dep_nodeT, dep_one]
      split
      · simp [er, dep]
      · rfl
    | 1 =>
      rw [C, CT]
      simp only [hk_map, tl_map, ih, must_take]
      split
      · cases CT f 1 ts.tail with
        | none => rfl
        | some x => simp [er, dep_nodeT, dep_one]
      split
      · cases takeT 4 ts.tail with
        | none => rfl
        | some a =>
          simp only [Option.map_some, Option.bind_some, ih]
          cases hq : CT f 2 a.2 with
          | none => rfl
          | some x =>
            simp only [Option.map_some, Option.bind_some, er, must_take]
            cases takeT 5 x.1 with
            | none => rfl
            | some z => simp [er, dep_exists (CT_query hq)]
      split
      · cases CT f 1 ts.tail with
        | none => rfl
        | some x =>
          simp only [Option.map_some, Option.bind_some, er, hk_map, tl_map, ih]
          split
          · cases CT f 1 x.1.tail with
            | none => rfl
            | some y =>
              simp only [Option.map_some, Option.bind_some, er, must_take]
              cases takeT 5 y.1 with
              | none => rfl
              | some z => simp [er, dep_nodeT, dep_two]
          · rfl
      · cases CT f 0 ts with
        | none => rfl
        | some x =>
          simp only [Option.map_some, Option.bind_some, er, hk_map, tl_map, ih, must_take]
          split
          · cases takeT 24 x.1.tail with
            | none => rfl
            | some z => simp [er, dep_nodeT, dep_one]
          split
          · cases CT f 0 x.1.tail with
            | none => rfl
            | some y => simp [er, dep_nodeT, dep_two]
          · rfl
    | 2 =>
      rw [C, CT, must_take]
      cases takeT 14 ts with
      | none => rfl
      | some a =>
        simp only [Option.map_some, Option.bind_some, ih]
        cases hx : CT f 3 a.2 with
        | none => rfl
        | some x =>
          have hx1 := (expr_pos f).2 _ _ hx
          simp only [Option.map_some, Option.bind_some, er, must_take]
          cases takeT 15 x.1 with
          | none => rfl
          | some b =>
            simp only [Option.map_some, Option.bind_some, List.length_map, src_er]
            cases srcsT (b.2.length + 1) b.2 with
            | none => rfl
            | some s =>
              simp only [Option.map_some, Option.bind_some, hk_map, tl_map, ih]
              have hy : (if hk s.1 = 16 then (CT f 1 s.1.tail).map er else some (s.1.map kd, 0)) = (if hk s.1 = 16 then CT f 1 s.1.tail else some (s.1, .nil)).map er := by split <;> rfl
              rw [hy]
              cases (if hk s.1 = 16 then CT f 1 s.1.tail else some (s.1, .nil)) with
              | none => rfl
              | some y =>
                simp only [Option.map_some, Option.bind_some, er, hk_map, tl_map, must_take]
                have hg : (if hk y.1 = 17 then ((takeT 18 y.1.tail).map fun x => x.2.map kd).bind fun k4 => colsP (k4.length + 1) k4 else some (y.1.map kd)) = (if hk y.1 = 17 then (takeT 18 y.1.tail).bind fun c => listG (fun _ => colT) (c.2.length + 1) c.2 else some (y.1, .nil)).map fun x => x.1.map kd := by
                  split
                  · cases takeT 18 y.1.tail with
                    | none => rfl
                    | some c => simp only [Option.map_some, Option.bind_some, List.length_map, cols_er]
                  · rfl
                rw [hg]
                cases hgg : (if hk y.1 = 17 then (takeT 18 y.1.tail).bind fun c => listG (fun _ => colT) (c.2.length + 1) c.2 else some (y.1, .nil)) with
                | none => rfl
                | some g =>
                  have hg1 : dep g.2 ≤ 1 := by
                    split at hgg
                    · obtain ⟨c, _, h⟩ := Option.bind_eq_some_iff.1 hgg
                      rw [cols_dep _ _ _ h]; exact Nat.le_refl _
                    · obtain rfl := Option.some.inj hgg
                      exact Nat.zero_le _
                  simp only [Option.map_some, Option.bind_some, hk_map, tl_map, ih]
                  have hz : (if hk g.1 = 19 then (CT f 1 g.1.tail).map er else some (g.1.map kd, 0)) = (if hk g.1 = 19 then CT f 1 g.1.tail else some (g.1, .nil)).map er := by split <;> rfl
                  rw [hz]
                  cases (if hk g.1 = 19 then CT f 1 g.1.tail else some (g.1, .nil)) with
                  | none => rfl
                  | some z =>
                    simp only [Option.map_some, Option.bind_some, er, dep]
                    congr 2
                    omega
    | 3 =>
      rw [C, CT, ih]
      cases CT f 0 ts with
      | none => rfl
      | some x =>
        simp only [Option.map_some, Option.bind_some, er, hk_map, tl_map, ih]
        split
        · cases CT f 3 x.1.tail with
          | none => rfl
          | some y => rfl
        · simp [er, dep_one]
    | n + 4 => rw [C, CT]; rfl
theorem CT_list : ∀ (f : Nat) (ts : List ByteArray), CT f 3 ts = listG (fun n => CT n 0) f ts := by
  intro f
  induction f with
  | zero => intro ts; rfl
  | succ f ih =>
    intro ts
    rw [CT, listG]
    cases CT f 0 ts with
    | none => rfl
    | some x => simp only [Option.bind_some, ih]
end Trib
/- Plain functions: an engine's tables and clock, and what Create, Insert, Delete and Tick make of them. No program is spoken of here. -/
namespace Trib
def bytesL (l : List UInt8) : ByteArray := ⟨l.toArray⟩
theorem bytesL_list (l : List UInt8) : (bytesL l).data.toList = l := rfl
theorem bytesL_of (b : ByteArray) : bytesL b.data.toList = b := rfl
theorem bytesL_inj {a b : ByteArray} (h : a.data.toList = b.data.toList) : a = b := by rw [← bytesL_of a, h, bytesL_of]
/-- A table: its name, its columns (1: of numbers, 2: of words), its rows with their numbers, the number given last. -/
structure Tb where
  name : ByteArray
  cols : List (ByteArray × Nat)
  rows : List (Nat × List Vl)
  last : Nat
structure Eng where
  tables : List Tb
  clock : Int
/-- The pieces of a text between the bytesL c, one at least. -/
def splitB (c : UInt8) : List UInt8 → List (List UInt8)
  | [] => [[]]
  | a :: r => if a = c then [] :: splitB c r else match splitB c r with
    | [] => [[a]]
    | h :: t => (a :: h) :: t
/-- A column as Create has it. -/
def colOf (p : List UInt8) : Option (ByteArray × Nat) := match splitB 58 p with
  | [n, k] => if nameB n && k == [105] then some (bytesL n, 1) else if nameB n && k == [116] then some (bytesL n, 2) else none
  | _ => none
def allOf {α β : Type} (g : α → Option β) : List α → Option (List β)
  | [] => some []
  | a :: r => (g a).bind fun x => (allOf g r).bind fun y => some (x :: y)
def colsOf (s : List UInt8) : Option (List (ByteArray × Nat)) := if 4 < (splitB 44 s).length then none else allOf colOf (splitB 44 s)
/-- Are two columns called the same? -/
def twins : List (ByteArray × Nat) → Bool
  | [] => false
  | a :: r => r.any (fun b => b.1 == a.1) || twins r
def logB : ByteArray := bytesL [108, 111, 103]
def touchB : ByteArray := bytesL [116, 111, 117, 99, 104]
/-- Create: the error, the engine behind it. -/
def createE (g : Eng) (name cols : ByteArray) : Nat × Eng :=
  if nameB name.data.toList then
    match colsOf cols.data.toList with
    | none => (1, g)
    | some l => if g.tables.any (fun t => t.name == name) || name == logB || name == touchB || twins l then (3, g)
      else if 6 ≤ g.tables.length then (7, g)
      else (0, { g with tables := g.tables ++ [⟨name, l, [], 0⟩] })
  else (1, g)
def valOf (s : ByteArray) : Option Vl := if (valRes s.data.toList).2 then some (valRes s.data.toList).1 else none
/-- Does every value go with its column? -/
def typedE : List Vl → List (ByteArray × Nat) → Bool
  | [], _ => true
  | _, [] => true
  | v :: vs, c :: cs => (v.kind == 0 || v.kind == c.2) && typedE vs cs
/-- Insert into a table: the row's number, the error, the table behind it. -/
def insertT (t : Tb) (vals : List ByteArray) : Nat × Nat × Tb :=
  if vals.length = t.cols.length then
    match allOf valOf vals with
    | none => (0, 1, t)
    | some l => if typedE l t.cols then (if 20 ≤ t.rows.length then (0, 7, t) else (t.last + 1, 0, { t with rows := t.rows ++ [(t.last + 1, l)], last := t.last + 1 })) else (0, 5, t)
  else (0, 1, t)
/-- Delete from a table: the error, the table behind it. -/
def deleteT (t : Tb) (n : Int) : Nat × Tb :=
  match t.rows.findIdx? (fun r => (r.1 : Int) == n) with
  | none => (8, t)
  | some i => (0, { t with rows := t.rows.eraseIdx i })
def findT (l : List Tb) (name : ByteArray) : Option Nat := l.findIdx? (fun t => t.name == name)
def insertE (g : Eng) (name : ByteArray) (vals : List ByteArray) : Nat × Nat × Eng :=
  match findT g.tables name with
  | none => (0, 8, g)
  | some i => match g.tables[i]? with
    | none => (0, 8, g)
    | some t => ((insertT t vals).1, (insertT t vals).2.1, { g with tables := g.tables.set i (insertT t vals).2.2 })
def deleteE (g : Eng) (name : ByteArray) (n : Int) : Nat × Eng :=
  match findT g.tables name with
  | none => (8, g)
  | some i => match g.tables[i]? with
    | none => (8, g)
    | some t => ((deleteT t n).1, { g with tables := g.tables.set i (deleteT t n).2 })
def tickE (g : Eng) (time : Int) : Int × Eng :=
  if g.clock < time ∧ time ≤ 1000000000000 then (time, { g with clock := time }) else (g.clock, g)
end Trib
/- Plain facts: the kinds of the tokens that a text falls into, told as the program's scanner goes about it. No program is spoken of here. -/
namespace Trib
def isBlank (c : UInt8) : Bool := c == 32
/-- What letters are that stand together. -/
def kindL (p : List UInt8) : Nat := if isKw p then 14 + kws.idxOf p else if 6 < p.length then 0 else 1
theorem takeWhile_drop_take {α : Type} (p : α → Bool) (l : List α) : l.take (l.takeWhile p).length = l.takeWhile p := by
  induction l with
  | nil => rfl
  | cons a r ih =>
    by_cases h : p a = true
    · rw [List.takeWhile_cons_of_pos h, List.length_cons, List.take_succ_cons, ih]
    · rw [List.takeWhile_cons_of_neg h]; rfl
theorem sub_span (p : UInt8 → Bool) (s : ByteArray) (k : Nat) : sub s k (spanEnd p s k) = (s.data.toList.drop k).takeWhile p := by
  rw [sub, ByteArray.data_extract, Array.toList_extract, List.extract, spanEnd, Nat.add_sub_cancel_left, takeWhile_drop_take]
theorem all_takeWhile (p : UInt8 → Bool) (l : List UInt8) : (l.takeWhile p).all p = true := by
  induction l with
  | nil => rfl
  | cons a r ih =>
    by_cases h : p a = true
    · rw [List.takeWhile_cons_of_pos h, List.all_cons, h, ih]; rfl
    · rw [List.takeWhile_cons_of_neg h]; rfl
theorem let_kinds {p : List UInt8} (h : p.all isLet = true) (h0 : p ≠ []) : kindL p = if isKw p || decide (p.length ≤ 6) then kindOf p else 0 := by
  unfold kindL
  by_cases hk : isKw p = true
  · rw [if_pos hk, if_pos (by rw [hk]; rfl), kindOf, if_pos hk]
  · have hk' : isKw p = false := by cases e : isKw p <;> simp_all
    rw [if_neg hk, hk', Bool.false_or]
    by_cases hl : p.length ≤ 6
    · rw [if_neg (by omega), if_pos (by simpa using hl)]
      refine ((kindOf_name p).2 ?_).symm
      unfold nameB lettersB
      rw [h, hk']
      cases p with
      | nil => exact absurd rfl h0
      | cons a r => simpa using hl
    · rw [if_pos (by omega), if_neg (by simpa using hl)]
theorem sign_kind {c : UInt8} (h : signs.contains c = true) : kindOf [c] = 4 + signs.idxOf c := by
  have h' : c ∈ signs := by simpa using h
  simp only [signs, List.mem_cons, List.not_mem_nil, or_false] at h'
  rcases h' with h | h | h | h | h | h | h | h | h | h <;> subst h <;> decide
theorem num_val {p : List UInt8} (c : UInt8) (r : List UInt8) (hp : p = c :: r) (hc : isDig c = true ∨ c = 45) : (valRes p).2 = numOk p := by
  subst hp
  unfold valRes numOk
  rw [if_neg, if_neg]
  · split
    · rename_i h; exact h.symm
    · rename_i h; cases e : (numRes (c :: r)).2 <;> simp_all
  · intro h
    have h' : c = 39 := by simpa using h
    subst h'
    revert hc; decide
  · intro h
    have h' : c = 110 := (List.cons.inj h).1
    subst h'
    revert hc; decide
theorem quote_head_ne {r : List UInt8} : ¬ ((39 : UInt8) :: r = [110, 117, 108, 108]) := fun h => by
  have : (39 : UInt8) = 110 := (List.cons.inj h).1
  revert this; decide
theorem word_val {inner : List UInt8} : (valRes (39 :: (inner ++ [39]))).2 = wordB inner := by
  unfold valRes
  rw [if_neg quote_head_ne, if_pos List.head?_cons]
  simp only [List.tail_cons, List.dropLast_concat, List.getLast?_append, List.getLast?_singleton, Option.some_or, true_and]
  split
  · rename_i h; exact h.symm
  · rename_i h; cases e : wordB inner <;> simp_all
theorem open_val {inner : List UInt8} (h : inner.all notQuote = true) : (valRes (39 :: inner)).2 = false := by
  unfold valRes
  rw [if_neg quote_head_ne, if_pos List.head?_cons]
  rw [if_neg]
  rintro ⟨e, _⟩
  rw [List.tail_cons] at e
  have hm : (39 : UInt8) ∈ inner := List.mem_of_getLast? e
  have := List.all_eq_true.1 h _ hm
  revert this; decide
/-- May a number's sign stand behind a token of this kind (0: there is none)? -/
def signedK (k : Nat) : Bool := k == 0 || k == 4 || k == 6 || k == 8 || k == 9 || k == 10 || k == 11 || k == 12 || k == 13 || decide (14 ≤ k)
theorem kw_iff (t : List UInt8) : isKw t = decide (14 ≤ kindOf t) := by
  rw [Bool.eq_iff_iff, decide_eq_true_eq]
  constructor
  · intro h; rw [kindOf, if_pos h]; omega
  · intro h
    unfold kindOf at h
    by_cases a : isKw t = true
    · exact a
    · rw [if_neg a] at h
      by_cases c : t.length = 1 ∧ signs.contains (t.headD 0) = true
      · rw [if_pos c] at h
        obtain ⟨i, hi, _, hx⟩ := sign_cases c.1 c.2
        omega
      · rw [if_neg c] at h
        repeat' split at h
        all_goals omega
theorem signed_kind (t : List UInt8) (h : t = [] ∨ kindOf t ≠ 0) : signedB t = signedK (kindOf t) := by
  have h0 : t.isEmpty = (kindOf t == 0) := by
    rcases h with rfl | h
    · decide
    · cases t with
      | nil => exact absurd (by decide) h
      | cons a r => simp [h]
  have hl : ∀ k, 4 ≤ k → k < 33 → (t == litOf k) = (kindOf t == k) := by
    intro k h4 h33
    rw [Bool.eq_iff_iff, beq_iff_eq, beq_iff_eq, kindOf_iff t k h4 h33]
  have e4 := hl 4 (by decide) (by decide)
  have e6 := hl 6 (by decide) (by decide)
  have e8 := hl 8 (by decide) (by decide)
  have e9 := hl 9 (by decide) (by decide)
  have e10 := hl 10 (by decide) (by decide)
  have e11 := hl 11 (by decide) (by decide)
  have e12 := hl 12 (by decide) (by decide)
  have e13 := hl 13 (by decide) (by decide)
  have l4 : litOf 4 = [40] := by decide
  have l6 : litOf 6 = [44] := by decide
  have l8 : litOf 8 = [61] := by decide
  have l9 : litOf 9 = [60] := by decide
  have l10 : litOf 10 = [62] := by decide
  have l11 : litOf 11 = [43] := by decide
  have l12 : litOf 12 = [45] := by decide
  have l13 : litOf 13 = [42] := by decide
  rw [l4] at e4; rw [l6] at e6; rw [l8] at e8; rw [l9] at e9; rw [l10] at e10; rw [l11] at e11; rw [l12] at e12; rw [l13] at e13
  unfold signedB signedK
  rw [kw_iff, h0]
  simp only [List.contains_cons, List.contains_nil, Bool.or_false, e4, e6, e8, e9, e10, e11, e12, e13]
  generalize (kindOf t == 0) = b0
  generalize (kindOf t == 4) = b4
  generalize (kindOf t == 6) = b6
  generalize (kindOf t == 8) = b8
  generalize (kindOf t == 9) = b9
  generalize (kindOf t == 10) = b10
  generalize (kindOf t == 11) = b11
  generalize (kindOf t == 12) = b12
  generalize (kindOf t == 13) = b13
  generalize decide (14 ≤ kindOf t) = b14
  revert b0 b4 b6 b8 b9 b10 b11 b12 b13 b14
  decide
end Trib
/- Plain facts: one step of falling into tokens, told as the program's scanner goes about it. No program is spoken of here. -/
namespace Trib
theorem sub_len' (s : ByteArray) (a e : Nat) (he : e ≤ s.size) : (sub s a e).length = e - a := by
  rw [sub, Array.length_toList]
  show (s.extract a e).size = _
  rw [ByteArray.size_extract]; omega
theorem sub_cons (s : ByteArray) (k e : Nat) (h : k < e) (he : e ≤ s.size) : sub s k e = s[k] :: sub s (k + 1) e := by
  simp only [sub, ByteArray.data_extract, Array.toList_extract, List.extract]
  rw [drop_at s k (by omega), show e - k = (e - (k + 1)) + 1 by omega, List.take_succ_cons]
theorem sub_snoc (s : ByteArray) (k e : Nat) (h : k ≤ e) (he : e < s.size) : sub s k (e + 1) = sub s k e ++ [s[e]] := by
  simp only [sub, ByteArray.data_extract, Array.toList_extract, List.extract]
  have hl : e - k < (s.data.toList.drop k).length := by rw [List.length_drop, size_list]; omega
  rw [show e + 1 - k = (e - k) + 1 by omega, List.take_succ_eq_append_getElem hl]
  congr 2
  rw [List.getElem_drop]
  have : k + (e - k) = e := by omega
  simp only [this]
  rfl
theorem spanEnd_at {p : UInt8 → Bool} {s : ByteArray} {j : Nat} (h : spanEnd p s j < s.size) (hj : j ≤ s.size) : p s[spanEnd p s j] = false := by
  have : ∀ n j, s.size - j = n → j ≤ s.size → (h : spanEnd p s j < s.size) → p s[spanEnd p s j] = false := by
    intro n
    induction n with
    | zero =>
      intro j hn hj h
      have := spanEnd_ge p s j
      omega
    | succ n ih =>
      intro j hn hj h
      have hlt : j < s.size := by omega
      cases hp : p s[j]
      · have e := spanEnd_stop p s j hlt hp
        simp only [e]; exact hp
      · have e := spanEnd_step p s j hlt hp
        simp only [e]
        exact ih (j + 1) (by omega) hlt (by rw [← e]; exact h)
  exact this _ j rfl hj h
/-- Where a word's token ends: behind the second sign, or behind the text. -/
def wordTo (s : ByteArray) (k : Nat) : Nat := if spanEnd notQuote s (k + 1) < s.size then spanEnd notQuote s (k + 1) + 1 else s.size
theorem letter_not {c : UInt8} (h : isLet c = true) : (c == 32) = false ∧ isDig c = false ∧ (c == 45) = false ∧ (c == 39) = false := by
  simp only [isLet, Bool.and_eq_true, decide_eq_true_eq] at h
  refine ⟨?_, ?_, ?_, ?_⟩
  · rw [beq_eq_false_iff_ne]; intro e; subst e; revert h; decide
  · simp only [isDig]; rw [decide_eq_false (p := c.toNat ≤ 57) (by omega), Bool.and_false]
  · rw [beq_eq_false_iff_ne]; intro e; subst e; revert h; decide
  · rw [beq_eq_false_iff_ne]; intro e; subst e; revert h; decide
theorem digit_not {c : UInt8} (h : isDig c = true) : (c == 32) = false ∧ isLet c = false ∧ (c == 45) = false ∧ (c == 39) = false := by
  simp only [isDig, Bool.and_eq_true, decide_eq_true_eq] at h
  refine ⟨?_, ?_, ?_, ?_⟩
  · rw [beq_eq_false_iff_ne]; intro e; subst e; revert h; decide
  · simp only [isLet]; rw [decide_eq_false (p := 97 ≤ c.toNat) (by omega), Bool.false_and]
  · rw [beq_eq_false_iff_ne]; intro e; subst e; revert h; decide
  · rw [beq_eq_false_iff_ne]; intro e; subst e; revert h; decide
/-- Letters. -/
theorem step_let {s : ByteArray} {k : Nat} {last : List UInt8} (hk : k < s.size) (hl : isLet s[k] = true) :
    tkStep s k last = (if kindL (sub s k (spanEnd isLet s k)) = 0 then none else some (some (sub s k (spanEnd isLet s k)), spanEnd isLet s k)) ∧
    (kindL (sub s k (spanEnd isLet s k)) ≠ 0 → kindOf (sub s k (spanEnd isLet s k)) = kindL (sub s k (spanEnd isLet s k))) := by
  have e := spanEnd_step isLet s k hk hl
  have hge := spanEnd_ge isLet s (k + 1)
  have hle := spanEnd_le isLet s (k + 1) hk
  have h0 : sub s k (spanEnd isLet s k) ≠ [] := by
    rw [sub_cons s k _ (by rw [e]; omega) (by rw [e]; exact hle)]; simp
  have ha : (sub s k (spanEnd isLet s k)).all isLet = true := by rw [sub_span]; exact all_takeWhile _ _
  have hk2 := let_kinds ha h0
  have hlen : (sub s k (spanEnd isLet s k)).length = spanEnd isLet s k - k := sub_len' _ _ _ (by rw [e]; exact hle)
  constructor
  · unfold tkStep
    rw [getBang s k hk, if_neg (by rw [(letter_not hl).1]; simp), if_pos hl, ← e, hk2, ← hlen]
    cases hc : (isKw (sub s k (spanEnd isLet s k)) || decide ((sub s k (spanEnd isLet s k)).length ≤ 6))
    · simp
    · have hn : kindOf (sub s k (spanEnd isLet s k)) ≠ 0 := by
        rw [hc] at hk2
        simp only [if_true] at hk2
        rw [← hk2]
        unfold kindL
        split
        · omega
        · split
          · rename_i h1 h2
            simp [h1] at hc; omega
          · decide
      simp [hn]
  · intro hne
    rw [hk2] at hne ⊢
    split
    · rfl
    · rename_i h; rw [if_neg h] at hne; exact absurd rfl hne
/-- Numbers. -/
theorem step_num {s : ByteArray} {k : Nat} {last : List UInt8} (hk : k < s.size) (hd : isDig s[k] = true ∨ isMinus s k last = true) :
    tkStep s k last = (if (valRes (sub s k (spanEnd isDig s (k + 1)))).2 = true then some (some (sub s k (spanEnd isDig s (k + 1))), spanEnd isDig s (k + 1)) else none) ∧
    ((valRes (sub s k (spanEnd isDig s (k + 1)))).2 = true → kindOf (sub s k (spanEnd isDig s (k + 1))) = 2) := by
  have hge := spanEnd_ge isDig s (k + 1)
  have hle := spanEnd_le isDig s (k + 1) hk
  have hcons := sub_cons s k (spanEnd isDig s (k + 1)) (by omega) hle
  have hc : isDig s[k] = true ∨ s[k] = 45 := by
    rcases hd with h | h
    · exact Or.inl h
    · right
      unfold isMinus at h
      rw [getBang s k hk] at h
      simp only [Bool.and_eq_true, beq_iff_eq] at h
      exact h.1.1.1
  have hv := num_val _ _ hcons hc
  have hb : (s[k] == 32) = false ∧ isLet s[k] = false := by
    rcases hc with h | h
    · exact ⟨(digit_not h).1, (digit_not h).2.1⟩
    · rw [h]; decide
  constructor
  · unfold tkStep
    rw [getBang s k hk, if_neg (by rw [hb.1]; simp), if_neg (by rw [hb.2]; simp), if_pos (by
      rcases hd with h | h
      · rw [h]; rfl
      · rw [h, Bool.or_true]), hv]
  · intro h
    rw [hv] at h
    exact (kindOf_num _).2 h
/-- Words. -/
theorem step_word {s : ByteArray} {k : Nat} {last : List UInt8} (hk : k < s.size) (hq : s[k] = 39) :
    tkStep s k last = (if (valRes (sub s k (wordTo s k))).2 = true then some (some (sub s k (wordTo s k)), wordTo s k) else none) ∧ kindOf (sub s k (wordTo s k)) = 3 := by
  have hge := spanEnd_ge notQuote s (k + 1)
  have hle := spanEnd_le notQuote s (k + 1) hk
  have hlt : k < wordTo s k := by unfold wordTo; split <;> omega
  have hwl : wordTo s k ≤ s.size := by unfold wordTo; split <;> omega
  have hcons := sub_cons s k (wordTo s k) hlt hwl
  have hm : isMinus s k last = false := by unfold isMinus; rw [getBang s k hk, hq]; rfl
  have hall : (sub s (k + 1) (spanEnd notQuote s (k + 1))).all notQuote = true := by rw [sub_span]; exact all_takeWhile _ _
  constructor
  · unfold tkStep
    rw [getBang s k hk, if_neg (by rw [hq]; decide), if_neg (by rw [hq]; decide), if_neg (by rw [hm, hq]; decide), if_pos (by rw [hq]; decide)]
    by_cases hlt2 : spanEnd notQuote s (k + 1) < s.size
    · have ew : wordTo s k = spanEnd notQuote s (k + 1) + 1 := by unfold wordTo; rw [if_pos hlt2]
      have hend : s[spanEnd notQuote s (k + 1)] = 39 := by
        have := spanEnd_at hlt2 hk
        simpa [notQuote] using this
      have hp : sub s k (wordTo s k) = 39 :: (sub s (k + 1) (spanEnd notQuote s (k + 1)) ++ [39]) := by
        rw [hcons, hq, ew, sub_snoc s (k + 1) _ hge hlt2, hend]
      rw [hp, word_val, decide_eq_true hlt2, Bool.true_and, ← ew, hp]
    · have ew : wordTo s k = s.size := by unfold wordTo; rw [if_neg hlt2]
      have es : spanEnd notQuote s (k + 1) = s.size := by omega
      have hp : sub s k (wordTo s k) = 39 :: sub s (k + 1) (spanEnd notQuote s (k + 1)) := by rw [hcons, hq, ew, es]
      rw [hp, open_val hall, decide_eq_false hlt2]; rfl
  · rw [kindOf_quote, hcons, hq]; rfl
/-- Signs, and what is nothing. -/
theorem step_sign {s : ByteArray} {k : Nat} {last : List UInt8} (hk : k < s.size) (hb : (s[k] == 32) = false) (hl : isLet s[k] = false) (hd : isDig s[k] = false) (hm : isMinus s k last = false) (hq : (s[k] == 39) = false) :
    tkStep s k last = (if signs.contains s[k] = true then some (some (sub s k (k + 1)), k + 1) else none) ∧ (signs.contains s[k] = true → kindOf (sub s k (k + 1)) = 4 + signs.idxOf s[k]) := by
  have hsub : sub s k (k + 1) = [s[k]] := by
    rw [sub_cons s k (k + 1) (by omega) hk]
    have : (sub s (k + 1) (k + 1)).length = 0 := by rw [sub_len' _ _ _ hk]; omega
    rw [List.eq_nil_of_length_eq_zero this]
  constructor
  · unfold tkStep
    rw [getBang s k hk, if_neg (by rw [hb]; simp), if_neg (by rw [hl]; simp), if_neg (by rw [hd, hm]; simp), if_neg (by rw [hq]; simp)]
  · intro h; rw [hsub]; exact sign_kind h
end Trib
