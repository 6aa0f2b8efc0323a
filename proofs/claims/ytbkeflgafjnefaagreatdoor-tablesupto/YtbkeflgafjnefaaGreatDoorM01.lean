/- Towards the law of tables: Pure1, Pure2, Pure3, Pure4, Pure5, Pure6, Pure7. -/
/- Plain functions on lists of bytes: what letters, digits, keywords, names, words and numbers of a text are. No program is spoken of here. -/
namespace Trib
/-- A small letter. -/
def isLet (c : UInt8) : Bool := decide (97 ≤ c.toNat) && decide (c.toNat ≤ 122)
/-- A digit. -/
def isDig (c : UInt8) : Bool := decide (48 ≤ c.toNat) && decide (c.toNat ≤ 57)
/-- The keywords, in the order of the kinds. -/
def kws : List (List UInt8) := [[115, 101, 108, 101, 99, 116], [102, 114, 111, 109], [119, 104, 101, 114, 101], [103, 114, 111, 117, 112], [98, 121], [104, 97, 118, 105, 110, 103], [97, 110, 100], [111, 114], [110, 111, 116], [105, 115], [110, 117, 108, 108], [101, 120, 105, 115, 116, 115], [99, 111, 117, 110, 116], [115, 117, 109], [109, 105, 110], [109, 97, 120], [110, 111, 119], [119, 105, 116, 104, 105, 110], [101, 118, 101, 114]]
def isKw (s : List UInt8) : Bool := kws.contains s
def lettersB (s : List UInt8) : Bool := s.all isLet && !s.isEmpty
def nameB (s : List UInt8) : Bool := lettersB s && !isKw s && decide (s.length ≤ 6)
def wordB (s : List UInt8) : Bool := s.all (fun c => isLet c || isDig c) && decide (s.length ≤ 8)
/-- The number that digits say. -/
def digVal (s : List UInt8) : Nat := s.foldl (fun n c => 10 * n + (c.toNat - 48)) 0
/-- Digits as a number has them: 1 to 13, no 0 ahead of others, none alone behind a sign. -/
def digsOk (neg : Bool) (s : List UInt8) : Bool := decide (1 ≤ s.length) && decide (s.length ≤ 13) && !(s.head? == some 48 && (decide (1 < s.length) || neg)) && s.all isDig
/-- What reading a number gives: the number, and whether it is one within its bounds. -/
def numFrom (sg : Int) (neg : Bool) (r : List UInt8) : Int × Bool := if digsOk neg r then (sg * (digVal r : Int), decide (digVal r ≤ 1000000000000)) else (0, false)
def numRes (s : List UInt8) : Int × Bool := if s.head? = some 45 then numFrom (-1) true s.tail else numFrom 1 false s
def numOk (s : List UInt8) : Bool := (numRes s).2
/-- May a number's sign stand behind this token (none: empty)? -/
def signedB (t : List UInt8) : Bool := t.isEmpty || isKw t || [[40], [44], [61], [60], [62], [43], [45], [42]].contains t

theorem digVal_snoc (s : List UInt8) (c : UInt8) : digVal (s ++ [c]) = 10 * digVal s + (c.toNat - 48) := by simp [digVal]
theorem digVal_lt_from (s : List UInt8) : ∀ (a : Nat), s.all isDig = true → s.foldl (fun n c => 10 * n + (c.toNat - 48)) a < (a + 1) * 10 ^ s.length := by
  induction s with
  | nil => intro a _; simp
  | cons c r ih =>
    intro a h
    rw [List.all_cons, Bool.and_eq_true] at h
    have hc := h.1
    simp only [isDig, Bool.and_eq_true, decide_eq_true_eq] at hc
    have h1 := ih (10 * a + (c.toNat - 48)) h.2
    rw [List.foldl_cons, List.length_cons, Nat.pow_succ]
    refine Nat.lt_of_lt_of_le h1 ?_
    rw [Nat.mul_comm (10 ^ r.length) 10, ← Nat.mul_assoc]
    exact Nat.mul_le_mul_right _ (by omega)
theorem digVal_lt (s : List UInt8) (h : s.all isDig = true) : digVal s < 10 ^ s.length := by
  have := digVal_lt_from s 0 h
  simpa [digVal] using this
end Trib
/- Plain functions: how a text falls into tokens, by places in it. No program is spoken of here. -/
namespace Trib
/-- The piece of s from a to e. -/
def sub (s : ByteArray) (a e : Nat) : List UInt8 := (s.extract a e).data.toList
/-- Where the bytes that are so end, from j on. -/
def spanEnd (p : UInt8 → Bool) (s : ByteArray) (j : Nat) : Nat := j + ((s.data.toList.drop j).takeWhile p).length
def notQuote (c : UInt8) : Bool := !(c == 39)
def signs : List UInt8 := [40, 41, 44, 46, 61, 60, 62, 43, 45, 42]
def isMinus (s : ByteArray) (k : Nat) (last : List UInt8) : Bool := s[k]! == 45 && signedB last && decide (k + 1 < s.size) && isDig s[k + 1]!
/-- One step at the place k behind the token 'last' (none: empty): a blank; a token and where it ends; or nothing that may be. -/
def tkStep (s : ByteArray) (k : Nat) (last : List UInt8) : Option (Option (List UInt8) × Nat) :=
  if s[k]! == 32 then some (none, k + 1)
  else if isLet s[k]! then
    (if isKw (sub s k (spanEnd isLet s (k + 1))) || decide (spanEnd isLet s (k + 1) - k ≤ 6) then some (some (sub s k (spanEnd isLet s (k + 1))), spanEnd isLet s (k + 1)) else none)
  else if isDig s[k]! || isMinus s k last then
    (if numOk (sub s k (spanEnd isDig s (k + 1))) then some (some (sub s k (spanEnd isDig s (k + 1))), spanEnd isDig s (k + 1)) else none)
  else if s[k]! == 39 then
    (if decide (spanEnd notQuote s (k + 1) < s.size) && wordB (sub s (k + 1) (spanEnd notQuote s (k + 1))) then some (some (sub s k (spanEnd notQuote s (k + 1) + 1)), spanEnd notQuote s (k + 1) + 1) else none)
  else if signs.contains s[k]! then some (some (sub s k (k + 1)), k + 1)
  else none
/-- All tokens from the place k on. -/
def tkRun (s : ByteArray) : Nat → Nat → List UInt8 → Option (List (List UInt8))
  | 0, _, _ => none
  | f + 1, k, last => if k < s.size then (match tkStep s k last with
      | none => none
      | some (none, k') => tkRun s f k' last
      | some (some t, k') => (tkRun s f k' t).map (t :: ·)) else some []
def tokensOf (s : ByteArray) : Option (List (List UInt8)) := tkRun s (s.size + 1) 0 []

theorem size_list (s : ByteArray) : s.data.toList.length = s.size := by rw [Array.length_toList]; rfl
theorem getBang (s : ByteArray) (k : Nat) (h : k < s.size) : s[k]! = s[k] := by
  rw [getElem!_pos s k h]
theorem drop_at (s : ByteArray) (j : Nat) (h : j < s.size) : s.data.toList.drop j = s[j] :: s.data.toList.drop (j + 1) := by
  rw [List.drop_eq_getElem_cons (by rw [size_list]; exact h)]; rfl
theorem spanEnd_step (p : UInt8 → Bool) (s : ByteArray) (j : Nat) (h : j < s.size) (hp : p s[j] = true) : spanEnd p s j = spanEnd p s (j + 1) := by
  rw [spanEnd, drop_at s j h, List.takeWhile_cons_of_pos hp, List.length_cons, spanEnd]; omega
theorem spanEnd_stop (p : UInt8 → Bool) (s : ByteArray) (j : Nat) (h : j < s.size) (hp : p s[j] = false) : spanEnd p s j = j := by
  rw [spanEnd, drop_at s j h, List.takeWhile_cons_of_neg (by simp [hp])]; rfl
theorem spanEnd_out (p : UInt8 → Bool) (s : ByteArray) (j : Nat) (h : ¬ j < s.size) : spanEnd p s j = j := by
  rw [spanEnd, List.drop_eq_nil_of_le (by rw [size_list]; omega)]; rfl
theorem spanEnd_ge (p : UInt8 → Bool) (s : ByteArray) (j : Nat) : j ≤ spanEnd p s j := Nat.le_add_right _ _
theorem takeWhile_le (p : UInt8 → Bool) (l : List UInt8) : (l.takeWhile p).length ≤ l.length := (List.takeWhile_prefix p).length_le
theorem spanEnd_le (p : UInt8 → Bool) (s : ByteArray) (j : Nat) (h : j ≤ s.size) : spanEnd p s j ≤ s.size := by
  have := takeWhile_le p (s.data.toList.drop j)
  rw [List.length_drop, size_list] at this
  rw [spanEnd]; omega
theorem tkStep_lt {s : ByteArray} {k : Nat} {last : List UInt8} {x : Option (List UInt8) × Nat} (hk : k < s.size) (h : tkStep s k last = some x) : k < x.2 ∧ x.2 ≤ s.size := by
  have h1 := spanEnd_ge isLet s (k + 1)
  have h2 := spanEnd_ge isDig s (k + 1)
  have h3 := spanEnd_ge notQuote s (k + 1)
  have e1 := spanEnd_le isLet s (k + 1) hk
  have e2 := spanEnd_le isDig s (k + 1) hk
  unfold tkStep at h
  repeat' split at h
  all_goals first | (cases h; done) | (obtain rfl := Option.some.inj h; simp_all <;> omega)
end Trib
/- Plain functions: the kinds of tokens, and the grammar's reading as the document's own answer goes about it, on kinds alone. No program is spoken of here. -/
namespace Trib
/-- The kind of a token: 0 none, 1 a name, 2 a number, 3 a word, 4 to 13 the signs, 14 to 32 the keywords. -/
def kindOf (t : List UInt8) : Nat :=
  if isKw t then 14 + kws.idxOf t
  else if t.length = 1 ∧ signs.contains (t.headD 0) = true then 4 + signs.idxOf (t.headD 0)
  else if t.head? = some 39 then 3
  else if nameB t then 1
  else if numOk t then 2
  else 0
/-- How a token of a kind from 4 on is written. -/
def litOf (k : Nat) : List UInt8 := if k < 14 then [signs.getD (k - 4) 0] else kws.getD (k - 14) []

theorem kw_cases {t : List UInt8} (h : isKw t = true) : ∃ i, i < 19 ∧ t = kws.getD i [] ∧ kws.idxOf t = i := by
  have h' : t ∈ kws := by simpa [isKw] using h
  simp only [kws, List.mem_cons, List.not_mem_nil, or_false] at h'
  rcases h' with h | h | h | h | h | h | h | h | h | h | h | h | h | h | h | h | h | h | h <;> subst h
  · exact ⟨0, by decide, by decide, by decide⟩
  · exact ⟨1, by decide, by decide, by decide⟩
  · exact ⟨2, by decide, by decide, by decide⟩
  · exact ⟨3, by decide, by decide, by decide⟩
  · exact ⟨4, by decide, by decide, by decide⟩
  · exact ⟨5, by decide, by decide, by decide⟩
  · exact ⟨6, by decide, by decide, by decide⟩
  · exact ⟨7, by decide, by decide, by decide⟩
  · exact ⟨8, by decide, by decide, by decide⟩
  · exact ⟨9, by decide, by decide, by decide⟩
  · exact ⟨10, by decide, by decide, by decide⟩
  · exact ⟨11, by decide, by decide, by decide⟩
  · exact ⟨12, by decide, by decide, by decide⟩
  · exact ⟨13, by decide, by decide, by decide⟩
  · exact ⟨14, by decide, by decide, by decide⟩
  · exact ⟨15, by decide, by decide, by decide⟩
  · exact ⟨16, by decide, by decide, by decide⟩
  · exact ⟨17, by decide, by decide, by decide⟩
  · exact ⟨18, by decide, by decide, by decide⟩
theorem sign_cases {t : List UInt8} (h1 : t.length = 1) (h : signs.contains (t.headD 0) = true) : ∃ i, i < 10 ∧ t = [signs.getD i 0] ∧ signs.idxOf (t.headD 0) = i := by
  match t, h1 with
  | [c], _ =>
    have h' : c ∈ signs := by simpa using h
    simp only [signs, List.mem_cons, List.not_mem_nil, or_false] at h'
    rcases h' with h | h | h | h | h | h | h | h | h | h <;> subst h
    · exact ⟨0, by decide, by decide, by decide⟩
    · exact ⟨1, by decide, by decide, by decide⟩
    · exact ⟨2, by decide, by decide, by decide⟩
    · exact ⟨3, by decide, by decide, by decide⟩
    · exact ⟨4, by decide, by decide, by decide⟩
    · exact ⟨5, by decide, by decide, by decide⟩
    · exact ⟨6, by decide, by decide, by decide⟩
    · exact ⟨7, by decide, by decide, by decide⟩
    · exact ⟨8, by decide, by decide, by decide⟩
    · exact ⟨9, by decide, by decide, by decide⟩
theorem kindOf_lit : ∀ k, k < 33 → 4 ≤ k → kindOf (litOf k) = k := by decide
/-- A token's kind is one from 4 on just where it is written so. -/
theorem kindOf_iff (t : List UInt8) (k : Nat) (h4 : 4 ≤ k) (hk : k < 33) : kindOf t = k ↔ t = litOf k := by
  refine ⟨fun h => ?_, fun h => by rw [h]; exact kindOf_lit k hk h4⟩
  unfold kindOf at h
  by_cases a : isKw t = true
  · rw [if_pos a] at h
    obtain ⟨i, hi, ht, hx⟩ := kw_cases a
    rw [hx] at h
    rw [litOf, if_neg (by omega), ht]
    congr 1; omega
  · rw [if_neg a] at h
    by_cases c : t.length = 1 ∧ signs.contains (t.headD 0) = true
    · rw [if_pos c] at h
      obtain ⟨i, hi, ht, hx⟩ := sign_cases c.1 c.2
      rw [hx] at h
      rw [litOf, if_pos (by omega), ht]
      congr 2; omega
    · rw [if_neg c] at h
      repeat' split at h
      all_goals omega
theorem kindOf_lt (t : List UInt8) : kindOf t < 33 := by
  unfold kindOf
  by_cases a : isKw t = true
  · rw [if_pos a]; obtain ⟨i, hi, _, hx⟩ := kw_cases a; rw [hx]; omega
  · rw [if_neg a]
    by_cases c : t.length = 1 ∧ signs.contains (t.headD 0) = true
    · rw [if_pos c]; obtain ⟨i, hi, _, hx⟩ := sign_cases c.1 c.2; rw [hx]; omega
    · rw [if_neg c]; repeat' split
      all_goals omega
theorem name_not_kw {t : List UInt8} (h : nameB t = true) : isKw t = false := by
  simp [nameB] at h; exact h.1.2
theorem name_head {t : List UInt8} (h : nameB t = true) : ∃ c r, t = c :: r ∧ isLet c = true := by
  simp [nameB, lettersB] at h
  match t with
  | [] => simp at h
  | c :: r => exact ⟨c, r, rfl, by simp at h; exact h.1.1.1⟩
theorem let_not_sign {c : UInt8} (h : isLet c = true) : signs.contains c = false ∧ c ≠ 39 ∧ isDig c = false ∧ c ≠ 45 := by
  simp [isLet] at h
  refine ⟨?_, ?_, ?_, ?_⟩
  · simp [signs, ← UInt8.toNat_inj]; omega
  · intro e; rw [e] at h; simp at h
  · simp [isDig]; omega
  · intro e; rw [e] at h; simp at h
theorem kindOf_name (t : List UInt8) : kindOf t = 1 ↔ nameB t = true := by
  constructor
  · intro h
    unfold kindOf at h
    repeat' split at h
    all_goals first | assumption | omega
  · intro h
    obtain ⟨c, r, rfl, hc⟩ := name_head h
    obtain ⟨h1, h2, _⟩ := let_not_sign hc
    unfold kindOf
    rw [if_neg (by rw [name_not_kw h]; simp), if_neg (fun e => by have e2 : signs.contains c = true := e.2; rw [h1] at e2; cases e2), if_neg (by simpa using h2), if_pos h]
theorem kindOf_quote (t : List UInt8) : kindOf t = 3 ↔ t.head? = some 39 := by
  constructor
  · intro h
    unfold kindOf at h
    repeat' split at h
    all_goals first | assumption | omega
  · intro h
    match t, h with
    | c :: r, h =>
      obtain rfl : c = 39 := by simpa using h
      unfold kindOf
      rw [if_neg, if_neg (by simp [signs]), if_pos (by rfl)]
      intro e
      obtain ⟨i, hi, ht, _⟩ := kw_cases e
      have : ∀ i, i < 19 → (kws.getD i []).head? ≠ some 39 := by decide
      exact this i hi (by rw [← ht]; rfl)
theorem num_head {t : List UInt8} (h : numOk t = true) : ∃ c r, t = c :: r ∧ (isDig c = true ∨ c = 45 ∧ r ≠ []) := by
  unfold numOk numRes at h
  match t with
  | [] => simp [numFrom, digsOk] at h
  | c :: r =>
    refine ⟨c, r, rfl, ?_⟩
    by_cases e : c = 45
    · subst e
      refine Or.inr ⟨rfl, fun e => ?_⟩
      subst e
      simp [numFrom, digsOk] at h
    · rw [if_neg (by simpa using e)] at h
      unfold numFrom at h
      split at h
      · rename_i hd
        simp [digsOk] at hd
        exact Or.inl hd.2.1
      · simp at h
theorem kindOf_num (t : List UInt8) : kindOf t = 2 ↔ numOk t = true := by
  constructor
  · intro h
    unfold kindOf at h
    repeat' split at h
    all_goals first | assumption | omega
  · intro h
    obtain ⟨c, r, rfl, hc⟩ := num_head h
    unfold kindOf
    have hl : isLet c = false := by
      cases e : isLet c
      · rfl
      · obtain ⟨_, _, h3, h4⟩ := let_not_sign e
        rcases hc with hc | hc
        · rw [h3] at hc; cases hc
        · exact absurd hc.1 h4
    have hkw : isKw (c :: r) = false := by
      cases e : isKw (c :: r)
      · rfl
      · obtain ⟨i, hi, ht, _⟩ := kw_cases e
        have : ∀ i, i < 19 → ((kws.getD i []).head?.any isLet) = true := by decide
        have := this i hi
        rw [← ht] at this
        simp [hl] at this
    rw [if_neg (by rw [hkw]; simp), if_neg, if_neg, if_neg, if_pos h]
    · intro e
      obtain ⟨c', r', h1, h2⟩ := name_head e
      obtain ⟨rfl, rfl⟩ : c = c' ∧ r = r' := by simpa using h1
      rw [hl] at h2; cases h2
    · intro e
      obtain rfl : c = 39 := by simpa using e
      rcases hc with hc | hc
      · simp [isDig] at hc
      · exact absurd hc.1 (by decide)
    · rintro ⟨h1, h2⟩
      obtain rfl : r = [] := by simpa using h1
      rcases hc with hc | hc
      · simp [isDig] at hc
        simp [signs, ← UInt8.toNat_inj] at h2
        omega
      · exact hc.2 rfl
end Trib
/- Plain functions: the reading of the grammar as the document's own answer goes about it, on kinds; none: it is bad. No program is spoken of here. -/
namespace Trib
/-- The next token must be of this kind. -/
def must (k : Nat) : List Nat → Option (List Nat)
  | [] => none
  | h :: r => if h = k then some r else none
def colP (ks : List Nat) : Option (List Nat) := (must 1 ks).bind fun a => (must 7 a).bind (must 1)
/-- Sources, columns: one or more, with a comma between (f: as many as there can be). -/
def srcsP : Nat → List Nat → Option (List Nat)
  | 0, _ => none
  | f + 1, ks => (must 1 ks).bind fun a => (must 1 a).bind fun b => match b with | 6 :: r => srcsP f r | _ => some b
def colsP : Nat → List Nat → Option (List Nat)
  | 0, _ => none
  | f + 1, ks => (colP ks).bind fun b => match b with | 6 :: r => colsP f r | _ => some b
/-- Does an 'and' or 'or' stand in the bracket that begins here, and in none within it? -/
def jointL : Int → List Nat → Bool
  | _, [] => false
  | o, k :: r => if (k = 20 ∨ k = 21) ∧ o = 1 then true else if (if k = 4 then o + 1 else if k = 5 then o - 1 else o) = 0 then false else jointL (if k = 4 then o + 1 else if k = 5 then o - 1 else o) r
/-- One part: 0 an expr, 1 a cond, 2 a query, 3 exprs with a comma between; of depth d: what is left behind it, and the greatest depth in it. -/
def R : Nat → Nat → List Nat → Int → Option (List Nat × Int)
  | 0, _, _, _ => none
  | f + 1, 0, ks, d =>
    if ks.headD 0 = 24 ∨ ks.headD 0 = 30 ∨ ks.headD 0 = 2 ∨ ks.headD 0 = 3 then some (ks.tail, d)
    else if 26 ≤ ks.headD 0 ∧ ks.headD 0 ≤ 29 then
      (must 4 ks.tail).bind fun k1 => if ks.headD 0 = 26 ∧ k1.headD 0 = 13 then (must 5 k1.tail).bind fun k2 => some (k2, d)
        else (R f 0 k1 (d + 1)).bind fun x => (must 5 x.1).bind fun k3 => some (k3, max d x.2)
    else if ks.headD 0 = 4 then
      (R f 0 ks.tail (d + 1)).bind fun x => if x.1.headD 0 = 11 ∨ x.1.headD 0 = 12 ∨ x.1.headD 0 = 13 then
        (R f 0 x.1.tail (d + 1)).bind fun y => (must 5 y.1).bind fun k3 => some (k3, max d (max x.2 y.2)) else none
    else (colP ks).bind fun k1 => some (k1, d)
  | f + 1, 1, ks, d =>
    if ks.headD 0 = 22 then (R f 1 ks.tail (d + 1)).bind fun x => some (x.1, max d x.2)
    else if ks.headD 0 = 25 then (must 4 ks.tail).bind fun k1 => (R f 2 k1 (d + 1)).bind fun x => (must 5 x.1).bind fun k3 => some (k3, max d x.2)
    else if ks.headD 0 = 4 ∧ jointL 0 ks = true then
      (R f 1 ks.tail (d + 1)).bind fun x => if x.1 = [] then none else (R f 1 x.1.tail (d + 1)).bind fun y => (must 5 y.1).bind fun k3 => some (k3, max d (max x.2 y.2))
    else if ks = [] then none
    else (R f 0 ks (d + 1)).bind fun x =>
      if x.1.headD 0 = 8 ∨ x.1.headD 0 = 9 ∨ x.1.headD 0 = 10 then (R f 0 x.1.tail (d + 1)).bind fun y => some (y.1, max d (max x.2 y.2))
      else if x.1.headD 0 = 23 then (must 24 x.1.tail).bind fun k3 => some (k3, max d x.2) else none
  | f + 1, 2, ks, d =>
    (must 14 ks).bind fun k0 => (R f 3 k0 (d + 1)).bind fun x => (must 15 x.1).bind fun k2 => (srcsP (k2.length + 1) k2).bind fun k3 =>
    (if k3.headD 0 = 16 then R f 1 k3.tail (d + 1) else some (k3, d)).bind fun y =>
    (if y.1.headD 0 = 17 then (must 18 y.1.tail).bind fun k4 => colsP (k4.length + 1) k4 else some y.1).bind fun k5 =>
    (if k5.headD 0 = 19 then R f 1 k5.tail (d + 1) else some (k5, d)).bind fun z => some (z.1, max d (max x.2 (max y.2 z.2)))
  | f + 1, 3, ks, d => (R f 0 ks d).bind fun x => if x.1.headD 0 = 6 then (R f 3 x.1.tail d).bind fun y => some (y.1, max x.2 y.2) else some x
  | _ + 1, _ + 4, _, _ => none
/-- A whole text: what Read makes of it: 0 fine, 1 no query or policy, 2 too deep. -/
def readP (ks : List Nat) : Nat :=
  let body := fun r : List Nat => match R (8 * r.length + 8) 2 r 1 with | some ([], m) => if m > 6 then 2 else 0 | _ => 1
  match ks with
  | 32 :: r => body r
  | 31 :: 2 :: r => body r
  | r => body r
end Trib
/- Plain functions: the reading of the grammar as the program goes about it, on kinds, with the depth of what is read; that exprs are read alike by both. No program is spoken of here. -/
namespace Trib
/-- Does an 'and' or 'or' stand in the bracket that begins here, or in one within it? -/
def opensL : Int → List Nat → Bool
  | _, [] => false
  | o, k :: r => if k = 20 ∨ k = 21 then true else if (if k = 4 then o + 1 else if k = 5 then o - 1 else o) = 0 then false else opensL (if k = 4 then o + 1 else if k = 5 then o - 1 else o) r
/-- One part: 0 an expr, 1 a cond, 2 a query, 3 exprs with a comma between: what is left behind it, and how deep it is by itself. -/
def C : Nat → Nat → List Nat → Option (List Nat × Nat)
  | 0, _, _ => none
  | f + 1, 0, ks =>
    if ks.headD 0 = 1 then (colP ks).bind fun k1 => some (k1, 1)
    else if ks.headD 0 = 30 then some (ks.tail, 1)
    else if ks.headD 0 = 4 then
      (C f 0 ks.tail).bind fun x => if x.1.headD 0 = 11 ∨ x.1.headD 0 = 12 ∨ x.1.headD 0 = 13 then
        (C f 0 x.1.tail).bind fun y => (must 5 y.1).bind fun k3 => some (k3, 1 + max x.2 y.2) else none
    else if 26 ≤ ks.headD 0 ∧ ks.headD 0 ≤ 29 then
      (must 4 ks.tail).bind fun k1 => if ks.headD 0 = 26 ∧ k1.headD 0 = 13 then (must 5 k1.tail).bind fun k2 => some (k2, 1)
        else (C f 0 k1).bind fun x => (must 5 x.1).bind fun k3 => some (k3, 1 + x.2)
    else if ks.headD 0 = 2 ∨ ks.headD 0 = 3 ∨ ks.headD 0 = 24 then some (ks.tail, 1)
    else none
  | f + 1, 1, ks =>
    if ks.headD 0 = 22 then (C f 1 ks.tail).bind fun x => some (x.1, 1 + x.2)
    else if ks.headD 0 = 25 then (must 4 ks.tail).bind fun k1 => (C f 2 k1).bind fun x => (must 5 x.1).bind fun k3 => some (k3, 1 + x.2)
    else if ks.headD 0 = 4 ∧ opensL 0 ks = true then
      (C f 1 ks.tail).bind fun x => if x.1.headD 0 = 20 ∨ x.1.headD 0 = 21 then (C f 1 x.1.tail).bind fun y => (must 5 y.1).bind fun k3 => some (k3, 1 + max x.2 y.2) else none
    else (C f 0 ks).bind fun x =>
      if x.1.headD 0 = 23 then (must 24 x.1.tail).bind fun k3 => some (k3, 1 + x.2)
      else if x.1.headD 0 = 8 ∨ x.1.headD 0 = 9 ∨ x.1.headD 0 = 10 then (C f 0 x.1.tail).bind fun y => some (y.1, 1 + max x.2 y.2) else none
  | f + 1, 2, ks =>
    (must 14 ks).bind fun k0 => (C f 3 k0).bind fun x => (must 15 x.1).bind fun k2 => (srcsP (k2.length + 1) k2).bind fun k3 =>
    (if k3.headD 0 = 16 then C f 1 k3.tail else some (k3, 0)).bind fun y =>
    (if y.1.headD 0 = 17 then (must 18 y.1.tail).bind fun k4 => colsP (k4.length + 1) k4 else some y.1).bind fun k5 =>
    (if k5.headD 0 = 19 then C f 1 k5.tail else some (k5, 0)).bind fun z => some (z.1, 1 + max x.2 (max y.2 z.2))
  | f + 1, 3, ks => (C f 0 ks).bind fun x => if x.1.headD 0 = 6 then (C f 3 x.1.tail).bind fun y => some (y.1, max x.2 y.2) else some x
  | _ + 1, _ + 4, _ => none

/-- At depth d a thing of depth n goes down to d + n - 1. -/
def atD (d : Int) (x : List Nat × Nat) : List Nat × Int := (x.1, d + (x.2 : Int) - 1)
theorem colP_ne {ks : List Nat} (h : ks.headD 0 ≠ 1) : colP ks = none := by
  match ks, h with
  | [], _ => rfl
  | a :: r, h => simp [colP, must, show a ≠ 1 from h]
theorem expr_alike : ∀ (f : Nat) (ks : List Nat) (d : Int), R f 0 ks d = (C f 0 ks).map (atD d) := by
  intro f
  induction f with
  | zero => intro ks d; rfl
  | succ f ih =>
    intro ks d
    rw [R, C]
    by_cases h1 : ks.headD 0 = 1
    · rw [if_neg (by omega), if_neg (by omega), if_neg (by omega), if_pos h1]
      cases colP ks with
      | none => rfl
      | some k1 => simp [atD]
    by_cases h30 : ks.headD 0 = 30
    · rw [if_pos (by omega), if_neg h1, if_pos h30]; simp [atD]
    by_cases h4 : ks.headD 0 = 4
    · rw [if_neg (by omega), if_neg (by omega), if_pos h4, if_neg h1, if_neg h30, if_pos h4, ih]
      cases hx : C f 0 ks.tail with
      | none => rfl
      | some x =>
        simp only [Option.map_some, Option.bind_some, atD]
        by_cases hop : x.1.headD 0 = 11 ∨ x.1.headD 0 = 12 ∨ x.1.headD 0 = 13
        · rw [if_pos hop, if_pos hop, ih]
          cases hy : C f 0 x.1.tail with
          | none => rfl
          | some y =>
            simp only [Option.map_some, Option.bind_some, atD]
            cases must 5 y.1 with
            | none => rfl
            | some k3 =>
              simp only [Option.map_some, Option.bind_some, atD, Option.some.injEq, Prod.mk.injEq, true_and]
              omega
        · rw [if_neg hop, if_neg hop]; rfl
    by_cases hag : 26 ≤ ks.headD 0 ∧ ks.headD 0 ≤ 29
    · rw [if_neg (by omega), if_pos hag, if_neg h1, if_neg h30, if_neg h4, if_pos hag]
      cases must 4 ks.tail with
      | none => rfl
      | some k1 =>
        simp only [Option.bind_some]
        by_cases hst : ks.headD 0 = 26 ∧ k1.headD 0 = 13
        · rw [if_pos hst, if_pos hst]
          cases must 5 k1.tail with
          | none => rfl
          | some k2 => simp [atD]
        · rw [if_neg hst, if_neg hst, ih]
          cases hx : C f 0 k1 with
          | none => rfl
          | some x =>
            simp only [Option.map_some, Option.bind_some, atD]
            cases must 5 x.1 with
            | none => rfl
            | some k3 =>
              simp only [Option.map_some, Option.bind_some, atD, Option.some.injEq, Prod.mk.injEq, true_and]
              omega
    by_cases hc : ks.headD 0 = 2 ∨ ks.headD 0 = 3 ∨ ks.headD 0 = 24
    · rw [if_pos (by omega), if_neg h1, if_neg h30, if_neg h4, if_neg hag, if_pos hc]; simp [atD]
    · rw [if_neg (by omega), if_neg hag, if_neg h4, if_neg h1, if_neg h30, if_neg h4, if_neg hag, if_neg hc, colP_ne h1]
      rfl
theorem exprs_alike : ∀ (f : Nat) (ks : List Nat) (d : Int), R f 3 ks d = (C f 3 ks).map (atD d) := by
  intro f
  induction f with
  | zero => intro ks d; rfl
  | succ f ih =>
    intro ks d
    rw [R, C, expr_alike]
    cases C f 0 ks with
    | none => rfl
    | some x =>
      simp only [Option.map_some, Option.bind_some, atD]
      by_cases h6 : x.1.headD 0 = 6
      · rw [if_pos h6, if_pos h6, ih]
        cases C f 3 x.1.tail with
        | none => rfl
        | some y =>
          simp only [Option.map_some, Option.bind_some, atD, Option.some.injEq, Prod.mk.injEq, true_and]
          omega
      · rw [if_neg h6, if_neg h6]; rfl
/-- Where an 'and' or 'or' is found in the bracket itself, one is found in it or within. -/
theorem joint_opens : ∀ (ks : List Nat) (o : Int), jointL o ks = true → opensL o ks = true := by
  intro ks
  induction ks with
  | nil => intro o h; cases h
  | cons k r ih =>
    intro o h
    rw [jointL] at h
    rw [opensL]
    by_cases hk : k = 20 ∨ k = 21
    · rw [if_pos hk]
    · rw [if_neg hk]
      rw [if_neg (fun e => hk e.1)] at h
      by_cases hz : (if k = 4 then o + 1 else if k = 5 then o - 1 else o) = 0
      · rw [if_pos hz] at h; cases h
      · rw [if_neg hz] at h ⊢
        exact ih _ h
end Trib
/- What is read is balanced in its brackets: the scan for 'and' and 'or' goes through it at its own level. No program is spoken of here. -/
namespace Trib
/-- The scan from any level from 1 on goes through the piece and comes out e levels higher. -/
def Thru (seg : List Nat) (e : Nat) : Prop := ∀ l : Int, 1 ≤ l → ∀ rest, jointL l (seg ++ rest) = jointL (l + e) rest
theorem Thru.nil : Thru [] 0 := fun l _ rest => by simp
theorem Thru.app {a b : List Nat} {e g : Nat} (h1 : Thru a e) (h2 : Thru b g) : Thru (a ++ b) (e + g) := fun l hl rest => by
  rw [List.append_assoc, h1 l hl, h2 (l + e) (by omega)]; congr 1; omega
theorem jl_plain {k : Nat} (h4 : k ≠ 4) (h5 : k ≠ 5) (h20 : k ≠ 20) (h21 : k ≠ 21) {l : Int} (hl : 1 ≤ l) (rest : List Nat) : jointL l (k :: rest) = jointL l rest := by
  rw [jointL, if_neg (by omega), if_neg h4, if_neg h5, if_neg (by omega)]
theorem jl_open {l : Int} (hl : 0 ≤ l) (rest : List Nat) : jointL l (4 :: rest) = jointL (l + 1) rest := by
  rw [jointL, if_neg (by omega), if_pos rfl, if_neg (by omega)]
theorem jl_close {l : Int} (hl : 2 ≤ l) (rest : List Nat) : jointL l (5 :: rest) = jointL (l - 1) rest := by
  have e : (if (5 : Nat) = 4 then l + 1 else if (5 : Nat) = 5 then l - 1 else l) = l - 1 := by simp
  rw [jointL, if_neg (by omega), e, if_neg (by omega)]
theorem jl_and {k : Nat} (hk : k = 20 ∨ k = 21) {l : Int} (hl : 2 ≤ l) (rest : List Nat) : jointL l (k :: rest) = jointL l rest := by
  rw [jointL, if_neg (by omega), if_neg (by omega), if_neg (by omega), if_neg (by omega)]
theorem Thru.one {k : Nat} (h4 : k ≠ 4) (h5 : k ≠ 5) (h20 : k ≠ 20) (h21 : k ≠ 21) : Thru [k] 0 := fun l hl rest => by
  show jointL l (k :: rest) = _
  rw [jl_plain h4 h5 h20 h21 hl]; simp
/-- A piece in brackets. -/
theorem Thru.bracket {a : List Nat} {e : Nat} (h : Thru a e) : Thru (4 :: a ++ [5]) e := fun l hl rest => by
  show jointL l (4 :: ((a ++ [5]) ++ rest)) = _
  rw [jl_open (by omega), List.append_assoc, h (l + 1) (by omega)]
  show jointL _ (5 :: rest) = _
  rw [jl_close (by omega)]; congr 1; omega
theorem must_some {k : Nat} {ks r : List Nat} (h : must k ks = some r) : ks = k :: r := by
  match ks, h with
  | a :: t, h =>
    by_cases e : a = k
    · have h' : must k (a :: t) = some t := by simp [must, e]
      rw [h'] at h
      obtain rfl := Option.some.inj h; rw [e]
    · have h' : must k (a :: t) = none := by simp [must, e]
      rw [h'] at h; cases h
theorem head_some' {ks : List Nat} {k : Nat} (h : ks.headD 0 = k) (hk : k ≠ 0) : ks = k :: ks.tail := by
  match ks, h with
  | [], h => exact absurd h.symm hk
  | a :: r, h => rw [show a = k from h]; rfl
theorem colP_thru {ks r : List Nat} (h : colP ks = some r) : ks = [1, 7, 1] ++ r ∧ Thru [1, 7, 1] 0 := by
  unfold colP at h
  obtain ⟨a, ha, h⟩ := Option.bind_eq_some_iff.1 h
  obtain ⟨c, hc, h⟩ := Option.bind_eq_some_iff.1 h
  refine ⟨by rw [must_some ha, must_some hc, must_some h]; rfl, ?_⟩
  exact ((Thru.one (k := 1) (by decide) (by decide) (by decide) (by decide)).app (Thru.one (k := 7) (by decide) (by decide) (by decide) (by decide))).app (Thru.one (k := 1) (by decide) (by decide) (by decide) (by decide))
/-- The other scan: no 'and' or 'or' in the piece, and it is balanced. -/
def ThruO (seg : List Nat) : Prop := ∀ l : Int, 1 ≤ l → ∀ rest, opensL l (seg ++ rest) = opensL l rest
theorem ol_plain {k : Nat} (h4 : k ≠ 4) (h5 : k ≠ 5) (h20 : k ≠ 20) (h21 : k ≠ 21) {l : Int} (hl : 1 ≤ l) (rest : List Nat) : opensL l (k :: rest) = opensL l rest := by
  rw [opensL, if_neg (by omega), if_neg h4, if_neg h5, if_neg (by omega)]
theorem ol_open {l : Int} (hl : 0 ≤ l) (rest : List Nat) : opensL l (4 :: rest) = opensL (l + 1) rest := by
  rw [opensL, if_neg (by omega), if_pos rfl, if_neg (by omega)]
theorem ol_close {l : Int} (hl : 2 ≤ l) (rest : List Nat) : opensL l (5 :: rest) = opensL (l - 1) rest := by
  have e : (if (5 : Nat) = 4 then l + 1 else if (5 : Nat) = 5 then l - 1 else l) = l - 1 := by simp
  rw [opensL, if_neg (by omega), e, if_neg (by omega)]
theorem ThruO.app {a b : List Nat} (h1 : ThruO a) (h2 : ThruO b) : ThruO (a ++ b) := fun l hl rest => by
  rw [List.append_assoc, h1 l hl, h2 l hl]
theorem ThruO.one {k : Nat} (h4 : k ≠ 4) (h5 : k ≠ 5) (h20 : k ≠ 20) (h21 : k ≠ 21) : ThruO [k] := fun _ hl rest => ol_plain h4 h5 h20 h21 hl rest
theorem ThruO.bracket {a : List Nat} (h : ThruO a) : ThruO (4 :: a ++ [5]) := fun l hl rest => by
  show opensL l (4 :: ((a ++ [5]) ++ rest)) = _
  rw [ol_open (by omega), List.append_assoc, h (l + 1) (by omega)]
  show opensL _ (5 :: rest) = _
  rw [ol_close (by omega)]; congr 1; omega
/-- An expr is balanced, has no 'and' or 'or' in it, and is no cond's bracket. -/
theorem expr_thru : ∀ (f : Nat) (ks ks' : List Nat) (n : Nat), C f 0 ks = some (ks', n) → ∃ seg, ks = seg ++ ks' ∧ Thru seg 0 ∧ ThruO seg ∧ (ks.headD 0 = 4 → opensL 0 ks = false) := by
  intro f
  induction f with
  | zero => intro ks ks' n h; cases h
  | succ f ih =>
    intro ks ks' n h
    rw [C] at h
    by_cases h1 : ks.headD 0 = 1
    · rw [if_pos h1] at h
      obtain ⟨k1, hc, h⟩ := Option.bind_eq_some_iff.1 h
      obtain ⟨rfl, rfl⟩ : k1 = ks' ∧ 1 = n := by simpa using h
      obtain ⟨e1, t1⟩ := colP_thru hc
      exact ⟨_, e1, t1, ((ThruO.one (k := 1) (by decide) (by decide) (by decide) (by decide)).app (ThruO.one (k := 7) (by decide) (by decide) (by decide) (by decide))).app (ThruO.one (k := 1) (by decide) (by decide) (by decide) (by decide)), fun e => by omega⟩
    rw [if_neg h1] at h
    by_cases h30 : ks.headD 0 = 30
    · rw [if_pos h30] at h
      obtain ⟨rfl, rfl⟩ : ks.tail = ks' ∧ 1 = n := by simpa using h
      exact ⟨[30], head_some' h30 (by decide), Thru.one (by decide) (by decide) (by decide) (by decide), ThruO.one (by decide) (by decide) (by decide) (by decide), fun e => by omega⟩
    rw [if_neg h30] at h
    by_cases h4 : ks.headD 0 = 4
    · rw [if_pos h4] at h
      obtain ⟨x, hx, h⟩ := Option.bind_eq_some_iff.1 h
      by_cases hop : x.1.headD 0 = 11 ∨ x.1.headD 0 = 12 ∨ x.1.headD 0 = 13
      · rw [if_pos hop] at h
        obtain ⟨y, hy, h⟩ := Option.bind_eq_some_iff.1 h
        obtain ⟨k3, h5, h⟩ := Option.bind_eq_some_iff.1 h
        obtain ⟨rfl, rfl⟩ : k3 = ks' ∧ 1 + max x.2 y.2 = n := by simpa using h
        obtain ⟨s1, e1, t1, o1, _⟩ := ih _ _ _ hx
        obtain ⟨s2, e2, t2, o2, _⟩ := ih _ _ _ hy
        obtain ⟨k, hk⟩ : ∃ k, x.1.headD 0 = k := ⟨_, rfl⟩
        have ek := head_some' hk (by omega)
        have ek5 := must_some h5
        have e : ks = (4 :: (s1 ++ [k] ++ s2) ++ [5]) ++ k3 := by
          rw [head_some' h4 (by decide), e1, ek, e2, ek5]; simp
        have tb := (((t1.app (Thru.one (k := k) (by omega) (by omega) (by omega) (by omega))).app t2)).bracket
        have ob := ((o1.app (ThruO.one (k := k) (by omega) (by omega) (by omega) (by omega))).app o2)
        refine ⟨_, e, tb, ob.bracket, fun _ => ?_⟩
        rw [e]
        show opensL 0 (4 :: (((s1 ++ [k] ++ s2) ++ [5]) ++ k3)) = false
        rw [ol_open (by omega), List.append_assoc, ob (0 + 1) (by omega)]
        show opensL 1 (5 :: k3) = false
        rfl
      · rw [if_neg hop] at h; cases h
    rw [if_neg h4] at h
    by_cases hag : 26 ≤ ks.headD 0 ∧ ks.headD 0 ≤ 29
    · rw [if_pos hag] at h
      obtain ⟨k1, hk1, h⟩ := Option.bind_eq_some_iff.1 h
      obtain ⟨k, hk⟩ : ∃ k, ks.headD 0 = k := ⟨_, rfl⟩
      have ek := head_some' hk (by omega)
      have e4 := must_some hk1
      have T1 := Thru.one (k := k) (by omega) (by omega) (by omega) (by omega)
      have O1 := ThruO.one (k := k) (by omega) (by omega) (by omega) (by omega)
      by_cases hst : ks.headD 0 = 26 ∧ k1.headD 0 = 13
      · rw [if_pos hst] at h
        obtain ⟨k2, hk2, h⟩ := Option.bind_eq_some_iff.1 h
        obtain ⟨rfl, rfl⟩ : k2 = ks' ∧ 1 = n := by simpa using h
        have e5 := must_some hk2
        refine ⟨[k] ++ (4 :: [13] ++ [5]), by rw [ek, e4, head_some' hst.2 (by decide), e5]; rfl, T1.app (Thru.one (k := 13) (by decide) (by decide) (by decide) (by decide)).bracket, O1.app (ThruO.one (k := 13) (by decide) (by decide) (by decide) (by decide)).bracket, fun e => by omega⟩
      · rw [if_neg hst] at h
        obtain ⟨x, hx, h⟩ := Option.bind_eq_some_iff.1 h
        obtain ⟨k3, h5, h⟩ := Option.bind_eq_some_iff.1 h
        obtain ⟨rfl, rfl⟩ : k3 = ks' ∧ 1 + x.2 = n := by simpa using h
        obtain ⟨s1, e1, t1, o1, _⟩ := ih _ _ _ hx
        have e5 := must_some h5
        refine ⟨[k] ++ (4 :: s1 ++ [5]), by rw [ek, e4, e1, e5]; simp, by simpa using T1.app t1.bracket, O1.app o1.bracket, fun e => by omega⟩
    rw [if_neg hag] at h
    by_cases hc : ks.headD 0 = 2 ∨ ks.headD 0 = 3 ∨ ks.headD 0 = 24
    · rw [if_pos hc] at h
      obtain ⟨rfl, rfl⟩ : ks.tail = ks' ∧ 1 = n := by simpa using h
      obtain ⟨k, hk⟩ : ∃ k, ks.headD 0 = k := ⟨_, rfl⟩
      exact ⟨[k], head_some' hk (by omega), Thru.one (by omega) (by omega) (by omega) (by omega), ThruO.one (by omega) (by omega) (by omega) (by omega), fun e => by omega⟩
    · rw [if_neg hc] at h; cases h
end Trib
/- What the program reads the document's answer reads too, to the same depth. No program is spoken of here. -/
namespace Trib
theorem Thru.pair {a b : List Nat} {e g k : Nat} (hk : k = 20 ∨ k = 21) (h1 : Thru a e) (h2 : Thru b g) : Thru (4 :: (a ++ k :: b) ++ [5]) (e + g) := fun l hl rest => by
  show jointL l (4 :: (((a ++ k :: b) ++ [5]) ++ rest)) = _
  rw [jl_open (by omega), List.append_assoc, List.append_assoc, h1 (l + 1) (by omega)]
  show jointL _ (k :: (b ++ ([5] ++ rest))) = _
  rw [jl_and hk (by omega), h2 _ (by omega)]
  show jointL _ (5 :: rest) = _
  rw [jl_close (by omega)]; congr 1; omega
theorem joint_pair {a b : List Nat} {k : Nat} (hk : k = 20 ∨ k = 21) (h1 : Thru a 0) : jointL 0 (4 :: (a ++ k :: b)) = true := by
  rw [jl_open (by omega), h1 (0 + 1) (by omega), jointL, if_pos ⟨hk, by omega⟩]
theorem exprs_thru : ∀ (f : Nat) (ks ks' : List Nat) (n : Nat), C f 3 ks = some (ks', n) → ∃ seg, ks = seg ++ ks' ∧ Thru seg 0 := by
  intro f
  induction f with
  | zero => intro ks ks' n h; cases h
  | succ f ih =>
    intro ks ks' n h
    rw [C] at h
    obtain ⟨x, hx, h⟩ := Option.bind_eq_some_iff.1 h
    obtain ⟨s1, e1, t1, _⟩ := expr_thru _ _ _ _ hx
    by_cases h6 : x.1.headD 0 = 6
    · rw [if_pos h6] at h
      obtain ⟨y, hy, h⟩ := Option.bind_eq_some_iff.1 h
      obtain ⟨s2, e2, t2⟩ := ih _ _ _ hy
      obtain ⟨rfl, _⟩ : y.1 = ks' ∧ _ := by simpa using h
      refine ⟨s1 ++ [6] ++ s2, by rw [e1, head_some' h6 (by decide), e2]; simp, ?_⟩
      exact (t1.app (Thru.one (k := 6) (by decide) (by decide) (by decide) (by decide))).app t2
    · rw [if_neg h6] at h
      obtain rfl := Option.some.inj h
      exact ⟨s1, e1, t1⟩
theorem srcs_thru : ∀ (f : Nat) (ks ks' : List Nat), srcsP f ks = some ks' → ∃ seg, ks = seg ++ ks' ∧ Thru seg 0 := by
  intro f
  induction f with
  | zero => intro ks ks' h; cases h
  | succ f ih =>
    intro ks ks' h
    rw [srcsP] at h
    obtain ⟨a, ha, h⟩ := Option.bind_eq_some_iff.1 h
    obtain ⟨c, hc, h⟩ := Option.bind_eq_some_iff.1 h
    have T1 : Thru [1, 1] 0 := (Thru.one (k := 1) (by decide) (by decide) (by decide) (by decide)).app (Thru.one (k := 1) (by decide) (by decide) (by decide) (by decide))
    have e : ks = [1, 1] ++ c := by rw [must_some ha, must_some hc]; rfl
    split at h
    · rename_i r
      obtain ⟨s2, e2, t2⟩ := ih _ _ h
      refine ⟨[1, 1] ++ [6] ++ s2, by rw [e, e2]; simp, ?_⟩
      exact (T1.app (Thru.one (k := 6) (by decide) (by decide) (by decide) (by decide))).app t2
    · obtain rfl := Option.some.inj h
      exact ⟨[1, 1], e, T1⟩
theorem cols_thru : ∀ (f : Nat) (ks ks' : List Nat), colsP f ks = some ks' → ∃ seg, ks = seg ++ ks' ∧ Thru seg 0 := by
  intro f
  induction f with
  | zero => intro ks ks' h; cases h
  | succ f ih =>
    intro ks ks' h
    rw [colsP] at h
    obtain ⟨c, hc, h⟩ := Option.bind_eq_some_iff.1 h
    obtain ⟨e, T1⟩ := colP_thru hc
    split at h
    · rename_i r
      obtain ⟨s2, e2, t2⟩ := ih _ _ h
      refine ⟨[1, 7, 1] ++ [6] ++ s2, by rw [e, e2]; simp, ?_⟩
      exact (T1.app (Thru.one (k := 6) (by decide) (by decide) (by decide) (by decide))).app t2
    · obtain rfl := Option.some.inj h
      exact ⟨[1, 7, 1], e, T1⟩
/-- What C reads, R reads, to the same depth; and it is balanced. -/
def Alike (f tag : Nat) : Prop := ∀ (ks ks' : List Nat) (n : Nat), C f tag ks = some (ks', n) → (∃ seg, ks = seg ++ ks' ∧ Thru seg 0) ∧ ∀ d : Int, R f tag ks d = some (ks', d + n - 1)
theorem cond_alike (f : Nat) (hc : Alike f 1) (hq : Alike f 2) : Alike (f + 1) 1 := by
  intro ks ks' n h
  rw [C] at h
  by_cases h22 : ks.headD 0 = 22
  · rw [if_pos h22] at h
    obtain ⟨x, hx, h⟩ := Option.bind_eq_some_iff.1 h
    obtain ⟨rfl, rfl⟩ : x.1 = ks' ∧ 1 + x.2 = n := by simpa using h
    obtain ⟨⟨s1, e1, t1⟩, r1⟩ := hc _ _ _ hx
    refine ⟨⟨[22] ++ s1, by rw [head_some' h22 (by decide), e1]; rfl, by simpa using (Thru.one (k := 22) (by decide) (by decide) (by decide) (by decide)).app t1⟩, fun d => ?_⟩
    rw [R, if_pos h22, r1 (d + 1), Option.bind_some]
    simp only [Option.some.injEq, Prod.mk.injEq, true_and]; omega
  rw [if_neg h22] at h
  by_cases h25 : ks.headD 0 = 25
  · rw [if_pos h25] at h
    obtain ⟨k1, hk1, h⟩ := Option.bind_eq_some_iff.1 h
    obtain ⟨x, hx, h⟩ := Option.bind_eq_some_iff.1 h
    obtain ⟨k3, h5, h⟩ := Option.bind_eq_some_iff.1 h
    obtain ⟨rfl, rfl⟩ : k3 = ks' ∧ 1 + x.2 = n := by simpa using h
    obtain ⟨⟨s1, e1, t1⟩, r1⟩ := hq _ _ _ hx
    refine ⟨⟨[25] ++ (4 :: s1 ++ [5]), by rw [head_some' h25 (by decide), must_some hk1, e1, must_some h5]; simp, by simpa using (Thru.one (k := 25) (by decide) (by decide) (by decide) (by decide)).app t1.bracket⟩, fun d => ?_⟩
    rw [R, if_neg h22, if_pos h25, hk1, Option.bind_some, r1 (d + 1), Option.bind_some, h5, Option.bind_some]
    simp only [Option.some.injEq, Prod.mk.injEq, true_and]; omega
  rw [if_neg h25] at h
  by_cases hop : ks.headD 0 = 4 ∧ opensL 0 ks = true
  · rw [if_pos hop] at h
    obtain ⟨x, hx, h⟩ := Option.bind_eq_some_iff.1 h
    by_cases hj : x.1.headD 0 = 20 ∨ x.1.headD 0 = 21
    · rw [if_pos hj] at h
      obtain ⟨y, hy, h⟩ := Option.bind_eq_some_iff.1 h
      obtain ⟨k3, h5, h⟩ := Option.bind_eq_some_iff.1 h
      obtain ⟨rfl, rfl⟩ : k3 = ks' ∧ 1 + max x.2 y.2 = n := by simpa using h
      obtain ⟨⟨s1, e1, t1⟩, r1⟩ := hc _ _ _ hx
      obtain ⟨⟨s2, e2, t2⟩, r2⟩ := hc _ _ _ hy
      obtain ⟨k, hk⟩ : ∃ k, x.1.headD 0 = k := ⟨_, rfl⟩
      rw [hk] at hj
      have ek := head_some' hk (by omega)
      have e : ks = (4 :: (s1 ++ k :: s2) ++ [5]) ++ k3 := by
        rw [head_some' hop.1 (by decide), e1, ek, e2, must_some h5]; simp
      have hjt : jointL 0 ks = true := by
        have : ks = 4 :: (s1 ++ k :: (s2 ++ [5] ++ k3)) := by rw [e]; simp
        rw [this]; exact joint_pair hj t1
      refine ⟨⟨_, e, by simpa using Thru.pair hj t1 t2⟩, fun d => ?_⟩
      rw [R, if_neg h22, if_neg h25, if_pos ⟨hop.1, hjt⟩, r1 (d + 1), Option.bind_some, if_neg (by rw [ek]; simp), r2 (d + 1), Option.bind_some, h5, Option.bind_some]
      simp only [Option.some.injEq, Prod.mk.injEq, true_and]; omega
    · rw [if_neg hj] at h; cases h
  rw [if_neg hop] at h
  obtain ⟨x, hx, h⟩ := Option.bind_eq_some_iff.1 h
  obtain ⟨s1, e1, t1, _, _⟩ := expr_thru _ _ _ _ hx
  have hne : ks ≠ [] := by
    rintro rfl
    match f, hx with
    | f + 1, hx => rw [C] at hx; simp at hx
  have hrj : ¬ (ks.headD 0 = 4 ∧ jointL 0 ks = true) := fun e => hop ⟨e.1, joint_opens _ _ e.2⟩
  have rx : ∀ d, R f 0 ks d = some (x.1, d + (x.2 : Int) - 1) := fun d => by rw [expr_alike, hx]; rfl
  by_cases h23 : x.1.headD 0 = 23
  · rw [if_pos h23] at h
    obtain ⟨k3, h24, h⟩ := Option.bind_eq_some_iff.1 h
    obtain ⟨rfl, rfl⟩ : k3 = ks' ∧ 1 + x.2 = n := by simpa using h
    refine ⟨⟨s1 ++ [23] ++ [24], by rw [e1, head_some' h23 (by decide), must_some h24]; simp, (t1.app (Thru.one (k := 23) (by decide) (by decide) (by decide) (by decide))).app (Thru.one (k := 24) (by decide) (by decide) (by decide) (by decide))⟩, fun d => ?_⟩
    rw [R, if_neg h22, if_neg h25, if_neg hrj, if_neg hne, rx (d + 1), Option.bind_some, if_neg (by show ¬ (x.1.headD 0 = 8 ∨ x.1.headD 0 = 9 ∨ x.1.headD 0 = 10); omega), if_pos h23, h24, Option.bind_some]
    simp only [Option.some.injEq, Prod.mk.injEq, true_and]; omega
  rw [if_neg h23] at h
  by_cases hcp : x.1.headD 0 = 8 ∨ x.1.headD 0 = 9 ∨ x.1.headD 0 = 10
  · rw [if_pos hcp] at h
    obtain ⟨y, hy, h⟩ := Option.bind_eq_some_iff.1 h
    obtain ⟨rfl, rfl⟩ : y.1 = ks' ∧ 1 + max x.2 y.2 = n := by simpa using h
    obtain ⟨s2, e2, t2, _, _⟩ := expr_thru _ _ _ _ hy
    obtain ⟨k, hk⟩ : ∃ k, x.1.headD 0 = k := ⟨_, rfl⟩
    have ry : ∀ d, R f 0 x.1.tail d = some (y.1, d + (y.2 : Int) - 1) := fun d => by rw [expr_alike, hy]; rfl
    refine ⟨⟨s1 ++ [k] ++ s2, by rw [e1, head_some' hk (by omega), e2]; simp, (t1.app (Thru.one (k := k) (by omega) (by omega) (by omega) (by omega))).app t2⟩, fun d => ?_⟩
    rw [R, if_neg h22, if_neg h25, if_neg hrj, if_neg hne, rx (d + 1), Option.bind_some, if_pos hcp, ry (d + 1), Option.bind_some]
    simp only [Option.some.injEq, Prod.mk.injEq, true_and]; omega
  · rw [if_neg hcp] at h; cases h
/-- A cond behind a keyword, if that stands there. -/
theorem opt_alike {f k : Nat} (hk0 : k ≠ 0) (h4 : k ≠ 4) (h5 : k ≠ 5) (h20 : k ≠ 20) (h21 : k ≠ 21) (hc : Alike f 1) {ks : List Nat} {y : List Nat × Nat} (h : (if ks.headD 0 = k then C f 1 ks.tail else some (ks, 0)) = some y) :
    (∃ seg, ks = seg ++ y.1 ∧ Thru seg 0) ∧ ∀ d : Int, ∃ m, (if ks.headD 0 = k then R f 1 ks.tail (d + 1) else some (ks, d)) = some (y.1, m) ∧ m = d + y.2 := by
  by_cases e : ks.headD 0 = k
  · rw [if_pos e] at h
    obtain ⟨⟨s1, e1, t1⟩, r1⟩ := hc _ _ _ h
    refine ⟨⟨[k] ++ s1, by rw [head_some' e hk0, e1]; rfl, by simpa using (Thru.one h4 h5 h20 h21).app t1⟩, fun d => ?_⟩
    rw [if_pos e, r1 (d + 1)]
    exact ⟨_, rfl, by omega⟩
  · rw [if_neg e] at h
    obtain rfl := Option.some.inj h
    refine ⟨⟨[], rfl, Thru.nil⟩, fun d => ?_⟩
    rw [if_neg e]
    exact ⟨_, rfl, by simp⟩
theorem query_alike (f : Nat) (hc : Alike f 1) : Alike (f + 1) 2 := by
  intro ks ks' n h
  rw [C] at h
  obtain ⟨k0, h14, h⟩ := Option.bind_eq_some_iff.1 h
  obtain ⟨x, hx, h⟩ := Option.bind_eq_some_iff.1 h
  obtain ⟨k2, h15, h⟩ := Option.bind_eq_some_iff.1 h
  obtain ⟨k3, hs, h⟩ := Option.bind_eq_some_iff.1 h
  obtain ⟨y, hy, h⟩ := Option.bind_eq_some_iff.1 h
  obtain ⟨k5, hg, h⟩ := Option.bind_eq_some_iff.1 h
  obtain ⟨z, hz, h⟩ := Option.bind_eq_some_iff.1 h
  obtain ⟨rfl, rfl⟩ : z.1 = ks' ∧ 1 + max x.2 (max y.2 z.2) = n := by simpa using h
  obtain ⟨s1, e1, t1⟩ := exprs_thru _ _ _ _ hx
  obtain ⟨s2, e2, t2⟩ := srcs_thru _ _ _ hs
  obtain ⟨⟨s3, e3, t3⟩, r3⟩ := opt_alike (by decide) (by decide) (by decide) (by decide) (by decide) hc hy
  obtain ⟨⟨s5, e5, t5⟩, r5⟩ := opt_alike (by decide) (by decide) (by decide) (by decide) (by decide) hc hz
  have hgs : ∃ seg, y.1 = seg ++ k5 ∧ Thru seg 0 := by
    by_cases e17 : y.1.headD 0 = 17
    · rw [if_pos e17] at hg
      obtain ⟨k4, h18, hg⟩ := Option.bind_eq_some_iff.1 hg
      obtain ⟨s4, e4, t4⟩ := cols_thru _ _ _ hg
      refine ⟨[17] ++ [18] ++ s4, by rw [head_some' e17 (by decide), must_some h18, e4]; simp, ?_⟩
      exact ((Thru.one (k := 17) (by decide) (by decide) (by decide) (by decide)).app (Thru.one (k := 18) (by decide) (by decide) (by decide) (by decide))).app t4
    · rw [if_neg e17] at hg
      obtain rfl := Option.some.inj hg
      exact ⟨[], rfl, Thru.nil⟩
  obtain ⟨s4, e4, t4⟩ := hgs
  refine ⟨⟨[14] ++ s1 ++ [15] ++ s2 ++ s3 ++ s4 ++ s5, ?_, ?_⟩, fun d => ?_⟩
  · rw [must_some h14, e1, must_some h15, e2, e3, e4, e5]; simp
  · exact ((((((Thru.one (k := 14) (by decide) (by decide) (by decide) (by decide)).app t1).app (Thru.one (k := 15) (by decide) (by decide) (by decide) (by decide))).app t2).app t3).app t4).app t5
  · obtain ⟨my, ry, hmy⟩ := r3 d
    obtain ⟨mz, rz, hmz⟩ := r5 d
    have rx : R f 3 k0 (d + 1) = some (x.1, d + 1 + (x.2 : Int) - 1) := by rw [exprs_alike, hx]; rfl
    rw [R, h14, Option.bind_some, rx, Option.bind_some, h15, Option.bind_some, hs, Option.bind_some, ry, Option.bind_some, hg, Option.bind_some, rz, Option.bind_some]
    simp only [Option.some.injEq, Prod.mk.injEq, true_and]; omega
theorem all_alike : ∀ f, Alike f 1 ∧ Alike f 2 := by
  intro f
  induction f with
  | zero => exact ⟨(fun ks ks' n h => by cases h), (fun ks ks' n h => by cases h)⟩
  | succ f ih => exact ⟨cond_alike f ih.1 ih.2, query_alike f ih.1⟩
end Trib
