/- Towards the law of tables: Pure16, Pure17. -/
import Derived.Test.YtbkeflgafjnefaaGreatDoorM05
import Derived.Lib.Split
import Derived.Lib.IndexBytes
import Derived.Lib.IndexMore
/- Plain facts: texts cut at a sign, as the library has it and as the document has it. No program is spoken of here. -/
namespace Trib
open Go
theorem split_ne (c : UInt8) (s : List UInt8) : ∃ h t, splitB c s = h :: t := by
  cases s with
  | nil => exact ⟨_, _, rfl⟩
  | cons a r =>
    rw [splitB]
    split
    · exact ⟨_, _, rfl⟩
    · split <;> exact ⟨_, _, rfl⟩
theorem split_first (c : UInt8) : ∀ s : List UInt8, (Lib.indexByte s c = -1 ∧ splitB c s = [s]) ∨ ∃ i : Nat, Lib.indexByte s c = i ∧ i < s.length ∧ splitB c s = s.take i :: splitB c (s.drop (i + 1))
  | [] => .inl ⟨rfl, rfl⟩
  | a :: r => by
    by_cases h : a = c
    · subst h
      refine .inr ⟨0, ?_, by simp, ?_⟩
      · simp [Lib.indexByte]
      · simp [splitB]
    · have hb : (a == c) = false := by simpa using h
      rcases split_first c r with ⟨h1, h2⟩ | ⟨i, h1, h2, h3⟩
      · refine .inl ⟨?_, ?_⟩
        · simp [Lib.indexByte, hb, h1]
        · rw [splitB, if_neg h, h2]
      · refine .inr ⟨i + 1, ?_, by simp; omega, ?_⟩
        · have hn : ((Lib.indexByte r c) == -1) = false := by rw [h1]; simp
          rw [Lib.indexByte, hb, hn, h1]
          simp
        · rw [splitB, if_neg h, h3]; rfl
theorem split_len (c : UInt8) (s : List UInt8) : (splitB c s).length ≤ s.length + 1 := by
  induction s with
  | nil => simp [splitB]
  | cons a r ih =>
    rw [splitB]
    split
    · simp only [List.length_cons]; omega
    · obtain ⟨h, t, e⟩ := split_ne c r
      rw [e] at ih ⊢
      simp only [List.length_cons] at ih ⊢; omega
theorem splitK_is (c : UInt8) : ∀ (k : Nat) (s : List UInt8), ((splitB c s).length ≤ k + 1 → Lib.splitK [c] 0 k s = splitB c s) ∧ (k + 1 < (splitB c s).length → (Lib.splitK [c] 0 k s).length = k + 1) := by
  intro k
  induction k with
  | zero =>
    intro s
    refine ⟨fun h => ?_, fun _ => rfl⟩
    rcases split_first c s with ⟨_, h2⟩ | ⟨i, _, _, h3⟩
    · rw [h2]; rfl
    · obtain ⟨x, t, e⟩ := split_ne c (s.drop (i + 1))
      rw [h3, e] at h
      simp at h
  | succ k ih =>
    intro s
    rcases split_first c s with ⟨h1, h2⟩ | ⟨i, h1, h2, h3⟩
    · have e : Lib.splitK [c] 0 (k + 1) s = [s] := by
        rw [Lib.splitK, Lib.index_one, h1]; rfl
      rw [e, h2]
      exact ⟨fun _ => rfl, fun h => absurd h (by simp)⟩
    · have hn : (Lib.indexByte s c == -1) = false := by rw [h1]; simp
      have e : Lib.splitK [c] 0 (k + 1) s = s.take i :: Lib.splitK [c] 0 k (s.drop (i + 1)) := by
        rw [Lib.splitK, Lib.index_one, hn, h1]; rfl
      obtain ⟨i1, i2⟩ := ih (s.drop (i + 1))
      rw [e, h3]
      refine ⟨fun h => ?_, fun h => ?_⟩
      · rw [i1 (by simp only [List.length_cons] at h; omega)]
      · simp only [List.length_cons] at h ⊢
        rw [i2 (by omega)]
/-- Pieces up to one more than may be. -/
theorem split_upTo (c : UInt8) (m : Nat) (s : List UInt8) : (m < (Lib.splitK [c] 0 (min (m + 1) (s.length + 1) - 1) s).length ↔ m < (splitB c s).length) ∧ (¬ m < (splitB c s).length → Lib.splitK [c] 0 (min (m + 1) (s.length + 1) - 1) s = splitB c s) := by
  have hl := split_len c s
  obtain ⟨h1, h2⟩ := splitK_is c (min (m + 1) (s.length + 1) - 1) s
  by_cases h : (splitB c s).length ≤ min (m + 1) (s.length + 1) - 1 + 1
  · rw [h1 h]; exact ⟨Iff.rfl, fun _ => rfl⟩
  · have e := h2 (by omega)
    refine ⟨by omega, fun h3 => ?_⟩
    omega
/-- A column, of the pieces ahead of and behind the first colon. -/
def colK (n k : List UInt8) : Option (ByteArray × Nat) := if nameB n then (if k = [105] then some (bytesL n, 1) else if k = [116] then some (bytesL n, 2) else none) else none
def colC (p : List UInt8) : Option (ByteArray × Nat) := colK (Lib.cut p [58]).1 (Lib.cut p [58]).2.1
theorem colK_none (n k : List UInt8) (h1 : k ≠ [105]) (h2 : k ≠ [116]) : colK n k = none := by
  unfold colK; rw [if_neg h1, if_neg h2]; split <;> rfl
theorem colC_eq (p : List UInt8) : colC p = colOf p := by
  unfold colC colOf
  rcases split_first 58 p with ⟨h1, h2⟩ | ⟨i, h1, h2, h3⟩
  · have e : Lib.cut p [58] = (p, [], false) := by
      unfold Lib.cut; rw [Lib.index_one, h1]; rfl
    rw [e, h2]
    exact colK_none _ _ (by simp) (by simp)
  · have e : Lib.cut p [58] = (p.take i, p.drop (i + 1), true) := by
      unfold Lib.cut; rw [Lib.index_one, h1, if_pos (by omega)]; rfl
    rw [e, h3]
    show colK (p.take i) (p.drop (i + 1)) = _
    rcases split_first 58 (p.drop (i + 1)) with ⟨g1, g2⟩ | ⟨j, g1, g2, g3⟩
    · rw [g2]
      show colK (p.take i) (p.drop (i + 1)) = if _ then _ else if _ then _ else _
      unfold colK
      cases nameB (p.take i)
      · simp
      · simp
    · obtain ⟨x, t, e'⟩ := split_ne 58 ((p.drop (i + 1)).drop (j + 1))
      rw [g3, e']
      refine (colK_none _ _ ?_ ?_).trans rfl
      · intro e9; rw [e9] at g1; have : Lib.indexByte [105] 58 = -1 := by decide
        omega
      · intro e9; rw [e9] at g1; have : Lib.indexByte [116] 58 = -1 := by decide
        omega
end Trib
/- Plain facts: lists of names, of columns and of values; a text cut at a sign. No program is spoken of here. -/
namespace Trib
theorem lenB (s : ByteArray) : s.data.toList.length = s.size := by rw [Array.length_toList]; rfl
theorem takeB (s : ByteArray) (k : Nat) (h : k < s.size) : s.data.toList.take (k + 1) = s.data.toList.take k ++ [s[k]] := by
  rw [List.take_succ_eq_append_getElem (by rw [lenB]; exact h)]; rfl
theorem extB (s : ByteArray) (a e : Nat) : (s.extract a e).size ≤ s.size := by rw [ByteArray.size_extract]; omega
theorem allOf_snoc {α β : Type} (g : α → Option β) (a : List α) (x : α) : allOf g (a ++ [x]) = (allOf g a).bind fun l => (g x).bind fun y => some (l ++ [y]) := by
  induction a with
  | nil => cases h : g x <;> simp [allOf, h]
  | cons b r ih =>
    show (g b).bind (fun x' => (allOf g (r ++ [x])).bind fun y => some (x' :: y)) = ((g b).bind fun x' => (allOf g r).bind fun y => some (x' :: y)).bind _
    rw [ih]
    cases g b with
    | none => rfl
    | some y =>
      cases allOf g r with
      | none => rfl
      | some z => cases g x <;> rfl
theorem allOf_none {α β : Type} (g : α → Option β) (a : List α) (x : α) (hx : x ∈ a) (h : g x = none) : allOf g a = none := by
  induction a with
  | nil => cases hx
  | cons b r ih =>
    rcases List.mem_cons.1 hx with rfl | hx
    · simp [allOf, h]
    · rw [allOf, ih hx]; cases g b <;> rfl
theorem beqB (a b : ByteArray) : (a == b) = true ↔ a = b := by
  cases a with
  | mk x => cases b with
    | mk y =>
      show (x == y) = true ↔ _
      rw [beq_iff_eq]
      constructor
      · rintro rfl; rfl
      · intro h; injection h
/-- Of the first j no two are called the same. -/
def NoTw (l : List (ByteArray × Nat)) (j : Nat) : Prop := ∀ a b (hab : a < b) (_ : b < j) (hl : b < l.length), l[b].1 ≠ (l[a]'(by omega)).1
/-- The one of number j is called as none of the first i. -/
def NoTwAt (l : List (ByteArray × Nat)) (j i : Nat) (hj : j < l.length) : Prop := ∀ a (ha : a < i) (hl : a < l.length), l[j].1 ≠ l[a].1
theorem NoTw.next {l : List (ByteArray × Nat)} {j : Nat} (h : NoTw l j) (hj : j < l.length) (h2 : NoTwAt l j j hj) : NoTw l (j + 1) := by
  intro a b hab hb hl
  by_cases e : b = j
  · subst e; exact h2 a hab (by omega)
  · exact h a b hab (by omega) hl
theorem twins_false : ∀ (l : List (ByteArray × Nat)), NoTw l l.length → twins l = false
  | [], _ => rfl
  | x :: r, h => by
    rw [twins]
    have h1 : r.any (fun b => b.1 == x.1) = false := by
      rw [List.any_eq_false]
      intro b hb
      rw [beqB]
      obtain ⟨i, hi, rfl⟩ := List.mem_iff_getElem.1 hb
      exact h 0 (i + 1) (by omega) (by simpa using hi) (by simpa using hi)
    have h2 : twins r = false := twins_false r (fun a b hab hb hl => by
      have := h (a + 1) (b + 1) (by omega) (by simpa using hb) (by simpa using hl)
      simpa using this)
    rw [h1, h2]; rfl
theorem twins_true : ∀ (l : List (ByteArray × Nat)) (a b : Nat) (hab : a < b) (hb : b < l.length), l[b].1 = (l[a]'(by omega)).1 → twins l = true
  | [], a, b, _, hb, _ => absurd hb (Nat.not_lt_zero _)
  | x :: r, a, b, hab, hb, e => by
    rw [twins]
    cases b with
    | zero => omega
    | succ b =>
      cases a with
      | zero =>
        have : r.any (fun b => b.1 == x.1) = true := by
          rw [List.any_eq_true]
          exact ⟨r[b]'(by simpa using hb), List.getElem_mem _, (beqB _ _).2 (by simpa using e)⟩
        rw [this]; rfl
      | succ a =>
        rw [twins_true r a b (by omega) (by simpa using hb) (by simpa using e), Bool.or_true]
/-- The place of the first that is called so. -/
def firstB (ns : List ByteArray) (name : ByteArray) : Option Nat := ns.findIdx? (fun n => n == name)
/-- None of the first j is called so. -/
def NoneB (ns : List ByteArray) (name : ByteArray) (j : Nat) : Prop := ∀ i (_ : i < j) (h : i < ns.length), ns[i] ≠ name
theorem first_none {ns : List ByteArray} {name : ByteArray} (h : NoneB ns name ns.length) : firstB ns name = none := by
  unfold firstB
  rw [List.findIdx?_eq_none_iff]
  intro n hn
  obtain ⟨i, hi, rfl⟩ := List.mem_iff_getElem.1 hn
  cases hb : ns[i] == name with
  | false => rfl
  | true => exact absurd ((beqB _ _).1 hb) (h i hi hi)
theorem first_some {ns : List ByteArray} {name : ByteArray} {j : Nat} (h : NoneB ns name j) (hj : j < ns.length) (e : ns[j] = name) : firstB ns name = some j := by
  unfold firstB
  rw [List.findIdx?_eq_some_iff_getElem]
  refine ⟨hj, (beqB _ _).2 e, fun i hi => ?_⟩
  intro hb
  exact h i hi (by omega) ((beqB _ _).1 hb)
/-- The first j go with their columns. -/
def TypedTo (l : List Vl) (cs : List (ByteArray × Nat)) (j : Nat) : Prop := ∀ i (_ : i < j) (h : i < l.length) (h2 : i < cs.length), l[i].kind = 0 ∨ l[i].kind = cs[i].2
theorem typed_true : ∀ (l : List Vl) (cs : List (ByteArray × Nat)), TypedTo l cs l.length → typedE l cs = true
  | [], _, _ => rfl
  | v :: vs, [], _ => rfl
  | v :: vs, c :: cs, h => by
    rw [typedE]
    have h0 := h 0 (by simp) (by simp) (by simp)
    have h1 : (v.kind == 0 || v.kind == c.2) = true := by
      rcases h0 with h0 | h0
      · have : v.kind = 0 := h0
        rw [this]; rfl
      · have : v.kind = c.2 := h0
        rw [this]; simp
    rw [h1, typed_true vs cs (fun i hi ha hb => by
      have := h (i + 1) (by simpa using hi) (by simpa using ha) (by simpa using hb)
      simpa using this)]
    rfl
theorem typed_false : ∀ (l : List Vl) (cs : List (ByteArray × Nat)) (i : Nat) (h : i < l.length) (h2 : i < cs.length), l[i].kind ≠ 0 → l[i].kind ≠ cs[i].2 → typedE l cs = false
  | [], _, _, h, _, _, _ => absurd h (Nat.not_lt_zero _)
  | v :: vs, [], _, _, h2, _, _ => absurd h2 (Nat.not_lt_zero _)
  | v :: vs, c :: cs, i, h, h2, n1, n2 => by
    rw [typedE]
    cases i with
    | zero =>
      have e1 : (v.kind == 0) = false := by simpa using n1
      have e2 : (v.kind == c.2) = false := by simpa using n2
      rw [e1, e2]; rfl
    | succ i =>
      rw [typed_false vs cs i (by simpa using h) (by simpa using h2) (by simpa using n1) (by simpa using n2), Bool.and_false]
theorem allOf_len {α β : Type} (g : α → Option β) : ∀ (a : List α) (l : List β), allOf g a = some l → l.length = a.length
  | [], l, h => by obtain rfl := Option.some.inj h; rfl
  | x :: r, l, h => by
    rw [allOf] at h
    obtain ⟨y, _, h⟩ := Option.bind_eq_some_iff.1 h
    obtain ⟨z, hz, h⟩ := Option.bind_eq_some_iff.1 h
    obtain rfl := Option.some.inj h
    rw [List.length_cons, List.length_cons, allOf_len g r z hz]
/-- A piece that is begun ahead of the pieces of the rest. -/
def glue (p : List UInt8) : List (List UInt8) → List (List UInt8)
  | [] => [p]
  | h :: t => (p ++ h) :: t
theorem glue_nil {X : List (List UInt8)} (h : ∃ a t, X = a :: t) : glue [] X = X := by
  obtain ⟨a, t, rfl⟩ := h; rfl
theorem glue_glue (p : List UInt8) (a : UInt8) (X : List (List UInt8)) : glue p (glue [a] X) = glue (p ++ [a]) X := by
  cases X <;> simp [glue]
theorem split_other {c a : UInt8} (h : ¬ a = c) (r : List UInt8) : splitB c (a :: r) = glue [a] (splitB c r) := by
  rw [splitB, if_neg h]
  split <;> rename_i e <;> rw [e] <;> rfl
theorem ext_list (s : ByteArray) (f j : Nat) : (s.extract f j).data.toList = (s.data.toList.take j).drop f := by
  rw [ByteArray.data_extract, Array.toList_extract]
  simp [List.extract]
  rw [List.drop_take]
/-- The pieces up to the place j, the last of which began at f. -/
def SpInv (c : UInt8) (s : ByteArray) (f j : Nat) (ts : List ByteArray) : Prop :=
  f ≤ j ∧ splitB c s.data.toList = ts.map (·.data.toList) ++ glue (s.extract f j).data.toList (splitB c (s.data.toList.drop j)) ∧ (∀ t ∈ ts, t.size ≤ s.size) ∧ ts.length ≤ j
theorem SpInv.start (c : UInt8) (s : ByteArray) : SpInv c s 0 0 [] := by
  refine ⟨Nat.le_refl _, ?_, by simp, by simp⟩
  rw [ext_list]
  simp only [List.take_zero, List.drop_zero, List.map_nil, List.nil_append]
  rw [glue_nil (split_ne c _)]
theorem dropB (s : ByteArray) (j : Nat) (h : j < s.size) : s.data.toList.drop j = s[j] :: s.data.toList.drop (j + 1) := by
  rw [List.drop_eq_getElem_cons (by rw [lenB]; exact h)]; rfl
theorem SpInv.cut {c : UInt8} {s : ByteArray} {f j : Nat} {ts : List ByteArray} (h : SpInv c s f j ts) (hj : j < s.size) (e : s[j] = c) : SpInv c s (j + 1) (j + 1) (ts ++ [s.extract f j]) := by
  obtain ⟨h0, h1, h2, h3⟩ := h
  refine ⟨Nat.le_refl _, ?_, ?_, by simp; omega⟩
  · rw [h1, dropB s j hj, splitB, if_pos e, List.map_append, List.append_assoc]
    rw [ext_list s (j + 1) (j + 1)]
    have : (s.data.toList.take (j + 1)).drop (j + 1) = [] := List.drop_of_length_le (by rw [List.length_take]; omega)
    rw [this, glue_nil (split_ne c _)]
    simp [glue]
  · intro t ht
    rcases List.mem_append.1 ht with ht | ht
    · exact h2 t ht
    · obtain rfl := List.mem_singleton.1 ht
      exact extB _ _ _
theorem SpInv.go {c : UInt8} {s : ByteArray} {f j : Nat} {ts : List ByteArray} (h : SpInv c s f j ts) (hj : j < s.size) (e : ¬ s[j] = c) : SpInv c s f (j + 1) ts := by
  obtain ⟨h0, h1, h2, h3⟩ := h
  refine ⟨by omega, ?_, h2, by omega⟩
  rw [h1, dropB s j hj, split_other e, glue_glue, ext_list, ext_list, takeB s j hj, List.drop_append_of_le_length (by rw [List.length_take, lenB]; omega)]
theorem SpInv.done {c : UInt8} {s : ByteArray} {f j : Nat} {ts : List ByteArray} (h : SpInv c s f j ts) (hj : ¬ j < s.size) : splitB c s.data.toList = (ts ++ [s.extract f s.size]).map (·.data.toList) ∧ (∀ t ∈ ts ++ [s.extract f s.size], t.size ≤ s.size) := by
  obtain ⟨h0, h1, h2, h3⟩ := h
  constructor
  · rw [h1, List.drop_of_length_le (by rw [lenB]; omega), List.map_append]
    show _ = _ ++ [(s.extract f s.size).data.toList]
    rw [ext_list, ext_list, List.take_of_length_le (by rw [lenB]; omega), List.take_of_length_le (by rw [lenB]; exact Nat.le_refl _)]
    simp [splitB, glue]
  · intro t ht
    rcases List.mem_append.1 ht with ht | ht
    · exact h2 t ht
    · obtain rfl := List.mem_singleton.1 ht
      exact extB _ _ _
end Trib
