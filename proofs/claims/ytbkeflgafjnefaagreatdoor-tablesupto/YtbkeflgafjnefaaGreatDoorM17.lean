/- Towards the law of tables: Pure11, Pure14, Pure15. -/
import Derived.Test.YtbkeflgafjnefaaGreatDoorM05
/- In what is read an aggregate's name has its bracket behind it; so the program's blanks are the document's. No program is spoken of here. -/
namespace Trib
def isAgg (k : Nat) : Bool := decide (26 ≤ k) && decide (k ≤ 29)
/-- Behind each aggregate's name stands a bracket. -/
def aggB : List Nat → Bool
  | [] => true
  | k :: r => (!isAgg k || r.headD 0 == 4) && aggB r
theorem aggB_app : ∀ (a b : List Nat), aggB a = true → aggB b = true → aggB (a ++ b) = true := by
  intro a
  induction a with
  | nil => intro b _ h; exact h
  | cons k r ih =>
    intro b h1 h2
    rw [aggB, Bool.and_eq_true] at h1
    rw [List.cons_append, aggB, Bool.and_eq_true]
    refine ⟨?_, ih b h1.2 h2⟩
    cases r with
    | nil =>
      have h := h1.1
      cases hk : isAgg k
      · rfl
      · rw [hk] at h; exact absurd h (by decide)
    | cons x y => exact h1.1
theorem aggB_one {k : Nat} (h : isAgg k = false) : aggB [k] = true := by rw [aggB, h]; rfl
theorem not_agg {k : Nat} (h : k < 26 ∨ 29 < k) : isAgg k = false := by
  unfold isAgg
  rcases h with h | h
  · rw [decide_eq_false (by omega), Bool.false_and]
  · rw [decide_eq_false (p := k ≤ 29) (by omega), Bool.and_false]
/-- What is read, as a piece ahead of what is left. -/
def Piece (ks ks' : List Nat) : Prop := ∃ seg, ks = seg ++ ks' ∧ aggB seg = true
theorem Piece.refl (ks : List Nat) : Piece ks ks := ⟨[], rfl, rfl⟩
theorem Piece.trans {a b c : List Nat} (h1 : Piece a b) (h2 : Piece b c) : Piece a c := by
  obtain ⟨s1, rfl, e1⟩ := h1
  obtain ⟨s2, rfl, e2⟩ := h2
  exact ⟨s1 ++ s2, by simp, aggB_app _ _ e1 e2⟩
theorem Piece.one {k : Nat} {r : List Nat} (h : k < 26 ∨ 29 < k) : Piece (k :: r) r := ⟨[k], rfl, aggB_one (not_agg h)⟩
theorem Piece.must {k : Nat} {ks r : List Nat} (h : must k ks = some r) (hk : k < 26 ∨ 29 < k) : Piece ks r := by rw [must_some h]; exact Piece.one hk
theorem Piece.head {k : Nat} {ks : List Nat} (h : ks.headD 0 = k) (hk0 : k ≠ 0) (hk : k < 26 ∨ 29 < k) : Piece ks ks.tail := by
  have := head_some' h hk0
  rw [this]; exact Piece.one hk
theorem Piece.agg {k : Nat} {ks r : List Nat} (h : ks.headD 0 = k) (hk0 : k ≠ 0) (h4 : Trib.must 4 ks.tail = some r) : Piece ks r := by
  refine ⟨[k, 4], ?_, ?_⟩
  · rw [head_some' h hk0, must_some h4]; rfl
  · rw [aggB, aggB_one (not_agg (by omega))]; simp
theorem Piece.col {ks r : List Nat} (h : colP ks = some r) : Piece ks r := ⟨[1, 7, 1], (colP_thru h).1, by decide⟩
theorem Piece.srcs : ∀ (f : Nat) (ks r : List Nat), srcsP f ks = some r → Piece ks r := by
  intro f
  induction f with
  | zero => intro ks r h; cases h
  | succ f ih =>
    intro ks r h
    rw [srcsP] at h
    obtain ⟨a, ha, h⟩ := Option.bind_eq_some_iff.1 h
    obtain ⟨b, hb, h⟩ := Option.bind_eq_some_iff.1 h
    refine (Piece.must ha (by omega)).trans ((Piece.must hb (by omega)).trans ?_)
    split at h
    · exact (Piece.one (by omega)).trans (ih _ _ h)
    · obtain rfl := Option.some.inj h; exact Piece.refl _
theorem Piece.cols : ∀ (f : Nat) (ks r : List Nat), colsP f ks = some r → Piece ks r := by
  intro f
  induction f with
  | zero => intro ks r h; cases h
  | succ f ih =>
    intro ks r h
    rw [colsP] at h
    obtain ⟨a, ha, h⟩ := Option.bind_eq_some_iff.1 h
    refine (Piece.col ha).trans ?_
    split at h
    · exact (Piece.one (by omega)).trans (ih _ _ h)
    · obtain rfl := Option.some.inj h; exact Piece.refl _
theorem Piece.opt {f k : Nat} (hk0 : k ≠ 0) (hk : k < 26 ∨ 29 < k) {ks : List Nat} {n0 : Nat} {y : List Nat × Nat} (ih : ∀ ks x, C f 1 ks = some x → Piece ks x.1) (h : (if ks.headD 0 = k then C f 1 ks.tail else some (ks, n0)) = some y) : Piece ks y.1 := by
  split at h
  · rename_i e; exact (Piece.head e hk0 hk).trans (ih _ _ h)
  · obtain rfl := Option.some.inj h; exact Piece.refl _
theorem C_piece : ∀ (f tag : Nat) (ks : List Nat) (x : List Nat × Nat), C f tag ks = some x → Piece ks x.1 := by
  intro f
  induction f with
  | zero => intro tag ks x h; cases h
  | succ f ih =>
    intro tag ks x h
    match tag, h with
    | 0, h =>
      rw [C] at h
      split at h
      · obtain ⟨a, ha, h⟩ := Option.bind_eq_some_iff.1 h
        obtain rfl := Option.some.inj h
        exact Piece.col ha
      split at h
      · rename_i e; obtain rfl := Option.some.inj h
        exact Piece.head e (by omega) (by omega)
      split at h
      · rename_i e
        obtain ⟨a, ha, h⟩ := Option.bind_eq_some_iff.1 h
        split at h
        · rename_i e2
          obtain ⟨b, hb, h⟩ := Option.bind_eq_some_iff.1 h
          obtain ⟨c, hc, h⟩ := Option.bind_eq_some_iff.1 h
          obtain rfl := Option.some.inj h
          exact (Piece.head e (by omega) (by omega)).trans ((ih _ _ _ ha).trans ((Piece.head (k := a.1.headD 0) rfl (by omega) (by omega)).trans ((ih _ _ _ hb).trans (Piece.must hc (by omega)))))
        · cases h
      split at h
      · rename_i e
        obtain ⟨a, ha, h⟩ := Option.bind_eq_some_iff.1 h
        refine (Piece.agg rfl (by omega) ha).trans ?_
        split at h
        · rename_i e2
          obtain ⟨c, hc, h⟩ := Option.bind_eq_some_iff.1 h
          obtain rfl := Option.some.inj h
          exact (Piece.head e2.2 (by omega) (by omega)).trans (Piece.must hc (by omega))
        · obtain ⟨b, hb, h⟩ := Option.bind_eq_some_iff.1 h
          obtain ⟨c, hc, h⟩ := Option.bind_eq_some_iff.1 h
          obtain rfl := Option.some.inj h
          exact (ih _ _ _ hb).trans (Piece.must hc (by omega))
      split at h
      · rename_i e; obtain rfl := Option.some.inj h
        exact Piece.head (k := ks.headD 0) rfl (by omega) (by omega)
      · cases h
    | 1, h =>
      rw [C] at h
      split at h
      · rename_i e
        obtain ⟨a, ha, h⟩ := Option.bind_eq_some_iff.1 h
        obtain rfl := Option.some.inj h
        exact (Piece.head e (by omega) (by omega)).trans (ih 1 _ a ha)
      split at h
      · rename_i e
        obtain ⟨a, ha, h⟩ := Option.bind_eq_some_iff.1 h
        obtain ⟨b, hb, h⟩ := Option.bind_eq_some_iff.1 h
        obtain ⟨c, hc, h⟩ := Option.bind_eq_some_iff.1 h
        obtain rfl := Option.some.inj h
        exact (Piece.head e (by omega) (by omega)).trans ((Piece.must ha (by omega)).trans ((ih _ _ _ hb).trans (Piece.must hc (by omega))))
      split at h
      · rename_i e
        obtain ⟨a, ha, h⟩ := Option.bind_eq_some_iff.1 h
        split at h
        · rename_i e2
          obtain ⟨b, hb, h⟩ := Option.bind_eq_some_iff.1 h
          obtain ⟨c, hc, h⟩ := Option.bind_eq_some_iff.1 h
          obtain rfl := Option.some.inj h
          exact (Piece.head e.1 (by omega) (by omega)).trans ((ih _ _ _ ha).trans ((Piece.head (k := a.1.headD 0) rfl (by omega) (by omega)).trans ((ih _ _ _ hb).trans (Piece.must hc (by omega)))))
        · cases h
      · obtain ⟨a, ha, h⟩ := Option.bind_eq_some_iff.1 h
        refine (ih _ _ _ ha).trans ?_
        split at h
        · rename_i e2
          obtain ⟨c, hc, h⟩ := Option.bind_eq_some_iff.1 h
          obtain rfl := Option.some.inj h
          exact (Piece.head e2 (by omega) (by omega)).trans (Piece.must hc (by omega))
        split at h
        · rename_i e2
          obtain ⟨b, hb, h⟩ := Option.bind_eq_some_iff.1 h
          obtain rfl := Option.some.inj h
          exact (Piece.head (k := a.1.headD 0) rfl (by omega) (by omega)).trans (ih 0 _ b hb)
        · cases h
    | 2, h =>
      rw [C] at h
      obtain ⟨a, ha, h⟩ := Option.bind_eq_some_iff.1 h
      obtain ⟨b, hb, h⟩ := Option.bind_eq_some_iff.1 h
      obtain ⟨c, hc, h⟩ := Option.bind_eq_some_iff.1 h
      obtain ⟨d, hd, h⟩ := Option.bind_eq_some_iff.1 h
      obtain ⟨y, hy, h⟩ := Option.bind_eq_some_iff.1 h
      obtain ⟨g, hg, h⟩ := Option.bind_eq_some_iff.1 h
      obtain ⟨z, hz, h⟩ := Option.bind_eq_some_iff.1 h
      obtain rfl := Option.some.inj h
      have pg : Piece y.1 g := by
        split at hg
        · rename_i e
          obtain ⟨k4, h4, hg⟩ := Option.bind_eq_some_iff.1 hg
          exact (Piece.head e (by omega) (by omega)).trans ((Piece.must h4 (by omega)).trans (Piece.cols _ _ _ hg))
        · obtain rfl := Option.some.inj hg; exact Piece.refl _
      exact (Piece.must ha (by omega)).trans ((ih _ _ _ hb).trans ((Piece.must hc (by omega)).trans ((Piece.srcs _ _ _ hd).trans ((Piece.opt (k := 16) (by decide) (by decide) (ih 1) hy).trans (pg.trans (Piece.opt (k := 19) (y := z) (by decide) (by decide) (ih 1) hz))))))
    | 3, h =>
      rw [C] at h
      obtain ⟨a, ha, h⟩ := Option.bind_eq_some_iff.1 h
      refine (ih _ _ _ ha).trans ?_
      split at h
      · rename_i e
        obtain ⟨b, hb, h⟩ := Option.bind_eq_some_iff.1 h
        obtain rfl := Option.some.inj h
        exact (Piece.head e (by omega) (by omega)).trans (ih 3 _ b hb)
      · obtain rfl := Option.some.inj h; exact Piece.refl _
    | n + 4, h => rw [C] at h; cases h
/-- A whole query has its brackets. -/
theorem C_agg {f : Nat} {ks : List Nat} {n : Nat} (h : C f 2 ks = some ([], n)) : aggB ks = true := by
  obtain ⟨seg, e, ha⟩ := C_piece _ _ _ _ h
  rw [e, List.append_nil]; exact ha
end Trib
/- Plain facts: the shape of the trees that the program's reading makes; how deep they are at most. No program is spoken of here. -/
namespace Trib
/-- How long a list is. -/
def lenT : Tr → Nat
  | .cons _ t => lenT t + 1
  | _ => 0
/-- The shape of a tree: 0 a node, 1 a list of nodes, 2 a query, 3 a node or none; lists of at most N. -/
inductive Wf (N : Nat) : Nat → Tr → Prop
  | node {k : Nat} {s n : ByteArray} {v : Vl} {p : Tr} : Wf N 1 p → lenT p ≤ 2 → Wf N 0 (.node k s n v p .nil)
  | nodeQ {k : Nat} {s n : ByteArray} {v : Vl} {e g w h : Tr} {l : List (ByteArray × ByteArray)} : Wf N 2 (.query e l w g h) → Wf N 0 (.node k s n v .nil (.query e l w g h))
  | nil : Wf N 1 .nil
  | cons {h t : Tr} : Wf N 0 h → Wf N 1 t → Wf N 1 (.cons h t)
  | query {e0 e1 g w h : Tr} {l : List (ByteArray × ByteArray)} : Wf N 1 (.cons e0 e1) → Wf N 1 g → Wf N 3 w → Wf N 3 h → lenT (.cons e0 e1) ≤ N → lenT g ≤ N → Wf N 2 (.query (.cons e0 e1) l w g h)
  | none : Wf N 3 .nil
  | some {t : Tr} : Wf N 0 t → Wf N 3 t
theorem Wf.two {N k : Nat} {a b : Tr} (h1 : Wf N 0 a) (h2 : Wf N 0 b) : Wf N 0 (nodeT k (.cons a (.cons b .nil))) := .node (.cons h1 (.cons h2 .nil)) (Nat.le_refl _)
theorem Wf.one {N k : Nat} {a : Tr} (h1 : Wf N 0 a) : Wf N 0 (nodeT k (.cons a .nil)) := .node (.cons h1 .nil) (Nat.le_succ _)
theorem Wf.leaf {N k : Nat} : Wf N 0 (nodeT k .nil) := .node .nil (Nat.zero_le _)
theorem col_wf {N : Nat} {l : List ByteArray} {x : List ByteArray × Tr} (h : colT l = some x) : Wf N 0 x.2 := by
  unfold colT at h
  obtain ⟨a, _, h⟩ := Option.bind_eq_some_iff.1 h
  obtain ⟨b, _, h⟩ := Option.bind_eq_some_iff.1 h
  obtain ⟨c, _, h⟩ := Option.bind_eq_some_iff.1 h
  obtain rfl := Option.some.inj h
  exact .node .nil (Nat.zero_le _)
theorem cols_wf {N : Nat} : ∀ (f : Nat) (l : List ByteArray) (x : List ByteArray × Tr), listG (fun _ => colT) f l = some x → Wf N 1 x.2 ∧ lenT x.2 ≤ f := by
  intro f
  induction f with
  | zero => intro l x h; cases h
  | succ f ih =>
    intro l x h
    rw [listG] at h
    obtain ⟨a, ha, h⟩ := Option.bind_eq_some_iff.1 h
    split at h
    · obtain ⟨y, hy, h⟩ := Option.bind_eq_some_iff.1 h
      obtain rfl := Option.some.inj h
      obtain ⟨h1, h2⟩ := ih _ _ hy
      exact ⟨.cons (col_wf ha) h1, by show lenT y.2 + 1 ≤ _; omega⟩
    · obtain rfl := Option.some.inj h
      exact ⟨.cons (col_wf ha) .nil, by show 0 + 1 ≤ _; omega⟩
theorem CT_short {f tag : Nat} {l : List ByteArray} {x : List ByteArray × Tr} (h : CT f tag l = some x) : x.1.length ≤ l.length := by
  have h1 := CT_er f tag l
  rw [h] at h1
  obtain ⟨seg, e, _⟩ := C_piece _ _ _ _ h1
  have := congrArg List.length e
  simp only [er, List.length_map, List.length_append] at this
  omega
theorem takeT_short {k : Nat} {l : List ByteArray} {x : ByteArray × List ByteArray} (h : takeT k l = some x) : x.2.length ≤ l.length := by
  match l, h with
  | t :: r, h =>
    rw [takeT] at h
    split at h
    · obtain rfl := Option.some.inj h; exact Nat.le_succ _
    · cases h
theorem tail_short (l : List ByteArray) : l.tail.length ≤ l.length := by rw [List.length_tail]; omega
theorem srcs_short : ∀ (f : Nat) (l : List ByteArray) (x : List ByteArray × List (ByteArray × ByteArray)), srcsT f l = some x → x.1.length ≤ l.length := by
  intro f
  induction f with
  | zero => intro l x h; cases h
  | succ f ih =>
    intro l x h
    rw [srcsT] at h
    obtain ⟨a, ha, h⟩ := Option.bind_eq_some_iff.1 h
    have h1 : a.1.length ≤ l.length := by
      unfold srcT at ha
      obtain ⟨b, hb, ha⟩ := Option.bind_eq_some_iff.1 ha
      obtain ⟨c, hc, ha⟩ := Option.bind_eq_some_iff.1 ha
      obtain rfl := Option.some.inj ha
      exact Nat.le_trans (takeT_short hc) (takeT_short hb)
    split at h
    · obtain ⟨y, hy, h⟩ := Option.bind_eq_some_iff.1 h
      obtain rfl := Option.some.inj h
      have h9 := ih _ _ hy
      have h8 := tail_short a.1
      show y.1.length ≤ _
      omega
    · obtain rfl := Option.some.inj h
      exact h1
theorem opt_wf {N f k : Nat} {l : List ByteArray} {y : List ByteArray × Tr} (ih : ∀ l x, CT f 1 l = some x → l.length + 1 ≤ N → Wf N 0 x.2) (hl : l.length + 1 ≤ N) (h : (if hk l = k then CT f 1 l.tail else some (l, .nil)) = some y) : Wf N 3 y.2 ∧ y.1.length ≤ l.length := by
  split at h
  · have := tail_short l
    exact ⟨.some (ih _ _ h (by omega)), Nat.le_trans (CT_short h) this⟩
  · obtain rfl := Option.some.inj h; exact ⟨.none, Nat.le_refl _⟩
theorem CT_wf (N : Nat) : ∀ f, f ≤ N → (∀ l x, CT f 0 l = some x → Wf N 0 x.2) ∧ (∀ l x, CT f 1 l = some x → l.length + 1 ≤ N → Wf N 0 x.2) ∧ (∀ l x, CT f 2 l = some x → l.length + 1 ≤ N → Wf N 2 x.2) ∧ (∀ l x, CT f 3 l = some x → Wf N 1 x.2 ∧ lenT x.2 ≤ f ∧ ∃ a b, x.2 = .cons a b) := by
  intro f
  induction f with
  | zero => intro _; exact ⟨(fun l x h => by cases h), (fun l x h => by cases h), (fun l x h => by cases h), (fun l x h => by cases h)⟩
  | succ f ih =>
    intro hN
    obtain ⟨i0, i1, i2, i3⟩ := ih (by omega)
    refine ⟨fun l x h => ?_, fun l x h hl => ?_, fun l x h hl => ?_, fun l x h => ?_⟩
    · rw [CT] at h
      split at h
      · exact col_wf h
      split at h
      · obtain rfl := Option.some.inj h; exact Wf.leaf
      split at h
      · obtain ⟨a, ha, h⟩ := Option.bind_eq_some_iff.1 h
        split at h
        · obtain ⟨b, hb, h⟩ := Option.bind_eq_some_iff.1 h
          obtain ⟨c, _, h⟩ := Option.bind_eq_some_iff.1 h
          obtain rfl := Option.some.inj h; exact Wf.two (i0 _ _ ha) (i0 _ _ hb)
        · cases h
      split at h
      · obtain ⟨a, _, h⟩ := Option.bind_eq_some_iff.1 h
        split at h
        · obtain ⟨c, _, h⟩ := Option.bind_eq_some_iff.1 h
          obtain rfl := Option.some.inj h; exact Wf.leaf
        · obtain ⟨b, hb, h⟩ := Option.bind_eq_some_iff.1 h
          obtain ⟨c, _, h⟩ := Option.bind_eq_some_iff.1 h
          obtain rfl := Option.some.inj h; exact Wf.one (i0 _ _ hb)
      split at h
      · obtain rfl := Option.some.inj h; exact .node .nil (Nat.zero_le _)
      · cases h
    · rw [CT] at h
      have ht := tail_short l
      split at h
      · obtain ⟨a, ha, h⟩ := Option.bind_eq_some_iff.1 h
        obtain rfl := Option.some.inj h; exact Wf.one (i1 _ _ ha (by omega))
      split at h
      · obtain ⟨a, ha, h⟩ := Option.bind_eq_some_iff.1 h
        obtain ⟨b, hb, h⟩ := Option.bind_eq_some_iff.1 h
        obtain ⟨c, _, h⟩ := Option.bind_eq_some_iff.1 h
        have h1 := takeT_short ha
        have hq := i2 _ _ hb (by omega)
        obtain ⟨e, s, w, g, z, hz⟩ := CT_query hb
        obtain rfl := Option.some.inj h
        show Wf N 0 (.node 15 ⟨#[]⟩ ⟨#[]⟩ Vl.zero .nil b.2)
        rw [hz] at hq ⊢
        exact .nodeQ hq
      split at h
      · obtain ⟨a, ha, h⟩ := Option.bind_eq_some_iff.1 h
        have h1 := CT_short ha
        split at h
        · obtain ⟨b, hb, h⟩ := Option.bind_eq_some_iff.1 h
          obtain ⟨c, _, h⟩ := Option.bind_eq_some_iff.1 h
          have h2 := tail_short a.1
          obtain rfl := Option.some.inj h; exact Wf.two (i1 _ _ ha (by omega)) (i1 _ _ hb (by omega))
        · cases h
      · obtain ⟨a, ha, h⟩ := Option.bind_eq_some_iff.1 h
        split at h
        · obtain ⟨c, _, h⟩ := Option.bind_eq_some_iff.1 h
          obtain rfl := Option.some.inj h; exact Wf.one (i0 _ _ ha)
        split at h
        · obtain ⟨b, hb, h⟩ := Option.bind_eq_some_iff.1 h
          obtain rfl := Option.some.inj h; exact Wf.two (i0 _ _ ha) (i0 _ _ hb)
        · cases h
    · rw [CT] at h
      obtain ⟨a, ha, h⟩ := Option.bind_eq_some_iff.1 h
      obtain ⟨b, hb, h⟩ := Option.bind_eq_some_iff.1 h
      obtain ⟨c, hc, h⟩ := Option.bind_eq_some_iff.1 h
      obtain ⟨d, hd, h⟩ := Option.bind_eq_some_iff.1 h
      obtain ⟨y, hy, h⟩ := Option.bind_eq_some_iff.1 h
      obtain ⟨g, hg, h⟩ := Option.bind_eq_some_iff.1 h
      obtain ⟨z, hz, h⟩ := Option.bind_eq_some_iff.1 h
      have h1 := takeT_short ha
      have h2 := CT_short hb
      have h3 := takeT_short hc
      have h4 := srcs_short _ _ _ hd
      obtain ⟨w1, l1, e0, e1, he⟩ := i3 _ _ hb
      obtain ⟨hyw, hyl⟩ := opt_wf i1 (by omega) hy
      have hgw : Wf N 1 g.2 ∧ lenT g.2 ≤ N ∧ g.1.length ≤ y.1.length := by
        split at hg
        · obtain ⟨k4, hk4, hg⟩ := Option.bind_eq_some_iff.1 hg
          have h5 := takeT_short hk4
          have h6 := tail_short y.1
          obtain ⟨q1, q2⟩ := cols_wf (N := N) _ _ _ hg
          refine ⟨q1, by omega, ?_⟩
          have key : ∀ (f : Nat) (l : List ByteArray) (x : List ByteArray × Tr), listG (fun _ => colT) f l = some x → x.1.length ≤ l.length := by
            intro f
            induction f with
            | zero => intro l x h; cases h
            | succ f ihf =>
              intro l x h
              rw [listG] at h
              obtain ⟨a, ha, h⟩ := Option.bind_eq_some_iff.1 h
              have h1 : a.1.length ≤ l.length := by
                unfold colT at ha
                obtain ⟨p, hp, ha⟩ := Option.bind_eq_some_iff.1 ha
                obtain ⟨q, hq, ha⟩ := Option.bind_eq_some_iff.1 ha
                obtain ⟨r, hr, ha⟩ := Option.bind_eq_some_iff.1 ha
                obtain rfl := Option.some.inj ha
                exact Nat.le_trans (takeT_short hr) (Nat.le_trans (takeT_short hq) (takeT_short hp))
              split at h
              · obtain ⟨y, hy, h⟩ := Option.bind_eq_some_iff.1 h
                obtain rfl := Option.some.inj h
                have h9 := ihf _ _ hy
                have h8 := tail_short a.1
                show y.1.length ≤ _
                omega
              · obtain rfl := Option.some.inj h
                exact h1
          have := key _ _ _ hg
          omega
        · obtain rfl := Option.some.inj hg; exact ⟨.nil, Nat.zero_le _, Nat.le_refl _⟩
      obtain ⟨hgw1, hgl, hgs⟩ := hgw
      obtain ⟨hzw, _⟩ := opt_wf i1 (by omega) hz
      obtain rfl := Option.some.inj h
      show Wf N 2 (.query b.2 d.2 y.2 g.2 z.2)
      rw [he] at w1 l1 ⊢
      exact .query w1 hgw1 hyw hzw (by omega) hgl
    · rw [CT] at h
      obtain ⟨a, ha, h⟩ := Option.bind_eq_some_iff.1 h
      split at h
      · obtain ⟨b, hb, h⟩ := Option.bind_eq_some_iff.1 h
        obtain ⟨q1, q2, _⟩ := i3 _ _ hb
        obtain rfl := Option.some.inj h
        exact ⟨.cons (i0 _ _ ha) q1, by show lenT b.2 + 1 ≤ _; omega, _, _, rfl⟩
      · obtain rfl := Option.some.inj h
        exact ⟨.cons (i0 _ _ ha) .nil, by show 0 + 1 ≤ _; omega, _, _, rfl⟩
/-- How deep it is, by the room there was. -/
theorem CT_dep : ∀ (f tag : Nat) (l : List ByteArray) (x : List ByteArray × Tr), CT f tag l = some x → dep x.2 ≤ f := by
  have key : ∀ (f tag : Nat) (ks : List Nat) (x : List Nat × Nat), C f tag ks = some x → x.2 ≤ f := by
    intro f
    induction f with
    | zero => intro tag ks x h; cases h
    | succ f ih =>
      intro tag ks x h
      match tag, h with
      | 0, h =>
        rw [C] at h
        split at h
        · obtain ⟨a, _, h⟩ := Option.bind_eq_some_iff.1 h
          obtain rfl := Option.some.inj h; show 1 ≤ _; omega
        split at h
        · obtain rfl := Option.some.inj h; show 1 ≤ _; omega
        split at h
        · obtain ⟨a, ha, h⟩ := Option.bind_eq_some_iff.1 h
          split at h
          · obtain ⟨b, hb, h⟩ := Option.bind_eq_some_iff.1 h
            obtain ⟨c, _, h⟩ := Option.bind_eq_some_iff.1 h
            have := ih _ _ _ ha
            have := ih _ _ _ hb
            obtain rfl := Option.some.inj h; show 1 + max a.2 b.2 ≤ _; omega
          · cases h
        split at h
        · obtain ⟨a, _, h⟩ := Option.bind_eq_some_iff.1 h
          split at h
          · obtain ⟨c, _, h⟩ := Option.bind_eq_some_iff.1 h
            obtain rfl := Option.some.inj h; show 1 ≤ _; omega
          · obtain ⟨b, hb, h⟩ := Option.bind_eq_some_iff.1 h
            obtain ⟨c, _, h⟩ := Option.bind_eq_some_iff.1 h
            have := ih _ _ _ hb
            obtain rfl := Option.some.inj h; show 1 + b.2 ≤ _; omega
        split at h
        · obtain rfl := Option.some.inj h; show 1 ≤ _; omega
        · cases h
      | 1, h =>
        rw [C] at h
        split at h
        · obtain ⟨a, ha, h⟩ := Option.bind_eq_some_iff.1 h
          have := ih _ _ _ ha
          obtain rfl := Option.some.inj h; show 1 + a.2 ≤ _; omega
        split at h
        · obtain ⟨a, _, h⟩ := Option.bind_eq_some_iff.1 h
          obtain ⟨b, hb, h⟩ := Option.bind_eq_some_iff.1 h
          obtain ⟨c, _, h⟩ := Option.bind_eq_some_iff.1 h
          have := ih _ _ _ hb
          obtain rfl := Option.some.inj h; show 1 + b.2 ≤ _; omega
        split at h
        · obtain ⟨a, ha, h⟩ := Option.bind_eq_some_iff.1 h
          split at h
          · obtain ⟨b, hb, h⟩ := Option.bind_eq_some_iff.1 h
            obtain ⟨c, _, h⟩ := Option.bind_eq_some_iff.1 h
            have := ih _ _ _ ha
            have := ih _ _ _ hb
            obtain rfl := Option.some.inj h; show 1 + max a.2 b.2 ≤ _; omega
          · cases h
        · obtain ⟨a, ha, h⟩ := Option.bind_eq_some_iff.1 h
          have := ih _ _ _ ha
          split at h
          · obtain ⟨c, _, h⟩ := Option.bind_eq_some_iff.1 h
            obtain rfl := Option.some.inj h; show 1 + a.2 ≤ _; omega
          split at h
          · obtain ⟨b, hb, h⟩ := Option.bind_eq_some_iff.1 h
            have := ih _ _ _ hb
            obtain rfl := Option.some.inj h; show 1 + max a.2 b.2 ≤ _; omega
          · cases h
      | 2, h =>
        rw [C] at h
        obtain ⟨a, _, h⟩ := Option.bind_eq_some_iff.1 h
        obtain ⟨b, hb, h⟩ := Option.bind_eq_some_iff.1 h
        obtain ⟨c, _, h⟩ := Option.bind_eq_some_iff.1 h
        obtain ⟨d, _, h⟩ := Option.bind_eq_some_iff.1 h
        obtain ⟨y, hy, h⟩ := Option.bind_eq_some_iff.1 h
        obtain ⟨g, _, h⟩ := Option.bind_eq_some_iff.1 h
        obtain ⟨z, hz, h⟩ := Option.bind_eq_some_iff.1 h
        have h1 := ih _ _ _ hb
        have h2 : y.2 ≤ f := by
          split at hy
          · exact ih _ _ _ hy
          · obtain rfl := Option.some.inj hy; exact Nat.zero_le _
        have h3 : z.2 ≤ f := by
          split at hz
          · exact ih _ _ _ hz
          · obtain rfl := Option.some.inj hz; exact Nat.zero_le _
        obtain rfl := Option.some.inj h
        show 1 + max b.2 (max y.2 z.2) ≤ _
        omega
      | 3, h =>
        rw [C] at h
        obtain ⟨a, ha, h⟩ := Option.bind_eq_some_iff.1 h
        have := ih _ _ _ ha
        split at h
        · obtain ⟨b, hb, h⟩ := Option.bind_eq_some_iff.1 h
          have := ih _ _ _ hb
          obtain rfl := Option.some.inj h; show max a.2 b.2 ≤ _; omega
        · obtain rfl := Option.some.inj h; omega
      | n + 4, h => rw [C] at h; cases h
  intro f tag l x h
  have h1 := CT_er f tag l
  rw [h] at h1
  exact key _ _ _ _ h1
end Trib
/- Plain functions: how the program writes tokens. No program is spoken of here. -/
namespace Trib
/-- Is there a blank between two tokens of these kinds (0: there is none ahead), as the program has it? -/
def blankK (l r : Nat) : Bool := if l = 0 ∨ l = 4 ∨ l = 7 then false else if 26 ≤ l ∧ l ≤ 29 then !(r == 4) else !(r == 5) && !(r == 6) && !(r == 7)
def wstepP (a : List UInt8 × Nat) (t : List UInt8) : List UInt8 × Nat := (a.1 ++ (if blankK a.2 (kindOf t) then [32] else []) ++ t, kindOf t)
def writtenP (l : List (List UInt8)) : List UInt8 × Nat := l.foldl wstepP ([], 0)
theorem writtenP_snoc (l : List (List UInt8)) (t : List UInt8) : writtenP (l ++ [t]) = wstepP (writtenP l) t := by simp [writtenP]
end Trib
