/- Towards the law of tables: R6, R7, R8, R9, R10, R11, R12. -/
import Derived.Test.YtbkeflgafjnefaaGreatDoorM02
import Derived.Test.YtbkeflgafjnefaaGreatDoorM08
import Derived.Deep.QuietTactic
import Derived.BigQuiet
import Derived.Test.YtbkeflgafjnefaaGreatDoorM01
namespace Go.Proofs.YtbkeflgafjnefaaGreatDoor
open Go.RowKit
open Trib

/-- What every reading of the Scan leaves: the Scan as told, and nothing else of what was there turned. -/
def After (w : World) (b : Nat) (v : Value) (p : Int) (bad : Bool) (deep : Int) (w' : World) : Prop := ScanIs w' b v p bad deep ∧ w.grownBy w' (some b)

set_option maxHeartbeats 1000000 in
theorem look_any (b : Nat) (v : Value) (ts : List ByteArray) (p : Int) (bad : Bool) (deep : Int) (w : World) (h : ScanIs w b v p bad deep) (hr : RowIs w b v ts) (hp : 0 ≤ p) (_hl : ts.length ≤ 1000) :
    Calls Tryz.prog 233 #[.pointer (some ⟨b, 0, none⟩)] w fun e w' => e = .returned (.string (tokAt ts p)) ∧ After w b v p bad deep w' := by
  obtain ⟨c0, c1, c2, c3⟩ := h.cells
  obtain ⟨a, cap, rfl⟩ := hr.len
  obtain ⟨n, rfl⟩ := Int.eq_ofNat_of_zero_le hp
  by_cases hlt : n < ts.length
  · obtain ⟨g, cap', hv, hc⟩ := hr.cell n hlt
    obtain ⟨rfl, rfl⟩ : a = some ⟨g, 0, none⟩ ∧ cap = cap' := by simpa using hv
    have hlt' : (n : Int) < (ts.length : Int) := by omega
    clear hv
    go_enter Tryz.func233, Tryz.ntmps233
    go_wp2_with fail
    go_quiet (fail)
    go_wp2_with fail
    go_quiet (fail)
    go_wp2_with fail
    go_ret
    exact ⟨rfl, (by exact h), ⟨rfl, rfl, rfl, Nat.le_refl _, fun _ _ _ => rfl⟩⟩
  · have HT : Hid (tokAt ts n = ⟨#[]⟩) := hide (by rw [tokAt, Int.toNat_natCast, List.getD, List.getElem?_eq_none (by omega)]; rfl)
    have hlt' : (ts.length : Int) ≤ n := by omega
    go_enter Tryz.func233, Tryz.ntmps233
    go_wp2_with fail
    go_quiet (fail)
    go_wp2_with fail
    go_ret
    exact ⟨by rw [HT.out]; rfl, (by exact h), ⟨rfl, rfl, rfl, Nat.le_refl _, fun _ _ _ => rfl⟩⟩


theorem After.row {w w' : World} {b : Nat} {v : Value} {p : Int} {bad : Bool} {deep : Int} {ts : List ByteArray} (h : After w b v p bad deep w') (hr : RowIs w b v ts) : RowIs w' b v ts := hr.kept h.2

/-- The next token is t. -/
def NextIs (ts : List ByteArray) (p : Int) (t : ByteArray) : Prop := ((tokAt ts p).toList == t.toList) = true
def NextNot (ts : List ByteArray) (p : Int) (t : ByteArray) : Prop := ((tokAt ts p).toList == t.toList) = false


set_option maxHeartbeats 1000000 in
theorem is_yes (b : Nat) (v : Value) (ts : List ByteArray) (p : Int) (deep : Int) (t : ByteArray) (w : World) (h : ScanIs w b v p false deep) (hr : RowIs w b v ts) (hp : 0 ≤ p) (hp2 : p ≤ 1000000) (hl : ts.length ≤ 1000) (hn : NextIs ts p t) :
    Calls Tryz.prog 231 #[.pointer (some ⟨b, 0, none⟩), .string t] w fun e w' => e = .returned (.bool true) ∧ After w b v (p + 1) false deep w' := by
  have hn' : ((tokAt ts p).toList == t.toList) = true := hn
  have hn2 : (!((tokAt ts p).toList == t.toList)) = false := by rw [hn']; rfl
  clear hn
  go_enter Tryz.func231, Tryz.ntmps231
  go_wp2_with (go_at_call 233; refine (look_any b v ts p false deep w h hr hp hl).mono ?_; rintro e w1 ⟨rfl, ha⟩; obtain ⟨c0, c1, c2, c3⟩ := ha.1.cells; have hf1 := ha.1.free 1; have hf2 := ha.1.free 2)
  go_ret
  exact ⟨rfl, ha.1.set1 _, ha.2.trans (grownBy_set _ _ _ _)⟩

set_option maxHeartbeats 1000000 in
theorem is_no (b : Nat) (v : Value) (ts : List ByteArray) (p : Int) (deep : Int) (t : ByteArray) (w : World) (h : ScanIs w b v p false deep) (hr : RowIs w b v ts) (hp : 0 ≤ p) (_hp2 : p ≤ 1000000) (hl : ts.length ≤ 1000) (hn : NextNot ts p t) :
    Calls Tryz.prog 231 #[.pointer (some ⟨b, 0, none⟩), .string t] w fun e w' => e = .returned (.bool false) ∧ After w b v p false deep w' := by
  have hn' : ((tokAt ts p).toList == t.toList) = false := hn
  have hn2 : (!((tokAt ts p).toList == t.toList)) = true := by rw [hn']; rfl
  clear hn
  go_enter Tryz.func231, Tryz.ntmps231
  go_wp2_with (go_at_call 233; refine (look_any b v ts p false deep w h hr hp hl).mono ?_; rintro e w1 ⟨rfl, ha⟩; obtain ⟨c0, c1, c2, c3⟩ := ha.1.cells; have hf1 := ha.1.free 1; have hf2 := ha.1.free 2)
  go_ret
  exact ⟨rfl, ha⟩

set_option maxHeartbeats 1000000 in
theorem is_bad (b : Nat) (v : Value) (ts : List ByteArray) (p : Int) (deep : Int) (t : ByteArray) (w : World) (h : ScanIs w b v p true deep) (hr : RowIs w b v ts) (hp : 0 ≤ p) (_hp2 : p ≤ 1000000) (hl : ts.length ≤ 1000) :
    Calls Tryz.prog 231 #[.pointer (some ⟨b, 0, none⟩), .string t] w fun e w' => e = .returned (.bool false) ∧ After w b v p true deep w' := by
  go_enter Tryz.func231, Tryz.ntmps231
  go_wp2_with (go_at_call 233; refine (look_any b v ts p true deep w h hr hp hl).mono ?_; rintro e w1 ⟨rfl, ha⟩; obtain ⟨c0, c1, c2, c3⟩ := ha.1.cells; have hf1 := ha.1.free 1; have hf2 := ha.1.free 2)
  all_goals go_ret
  all_goals exact ⟨rfl, ha⟩

set_option maxHeartbeats 1000000 in
theorem must_yes (b : Nat) (v : Value) (ts : List ByteArray) (p : Int) (deep : Int) (t : ByteArray) (w : World) (h : ScanIs w b v p false deep) (hr : RowIs w b v ts) (hp : 0 ≤ p) (hp2 : p ≤ 1000000) (hl : ts.length ≤ 1000) (hn : NextIs ts p t) :
    Calls Tryz.prog 324 #[.pointer (some ⟨b, 0, none⟩), .string t] w fun e w' => e = .returned (.tuple #[]) ∧ After w b v (p + 1) false deep w' := by
  go_enter Tryz.func324, Tryz.ntmps324
  go_wp2_with (go_at_call 231; refine (is_yes b v ts p deep t w h hr hp hp2 hl hn).mono ?_; rintro e w1 ⟨rfl, ha⟩; obtain ⟨c0, c1, c2, c3⟩ := ha.1.cells; have hf1 := ha.1.free 1; have hf2 := ha.1.free 2)
  go_end0
  exact ⟨rfl, ha⟩

set_option maxHeartbeats 1000000 in
theorem must_no (b : Nat) (v : Value) (ts : List ByteArray) (p : Int) (deep : Int) (t : ByteArray) (w : World) (h : ScanIs w b v p false deep) (hr : RowIs w b v ts) (hp : 0 ≤ p) (hp2 : p ≤ 1000000) (hl : ts.length ≤ 1000) (hn : NextNot ts p t) :
    Calls Tryz.prog 324 #[.pointer (some ⟨b, 0, none⟩), .string t] w fun e w' => e = .returned (.tuple #[]) ∧ After w b v p true deep w' := by
  go_enter Tryz.func324, Tryz.ntmps324
  go_wp2_with (go_at_call 231; refine (is_no b v ts p deep t w h hr hp hp2 hl hn).mono ?_; rintro e w1 ⟨rfl, ha⟩; obtain ⟨c0, c1, c2, c3⟩ := ha.1.cells; have hf1 := ha.1.free 1; have hf2 := ha.1.free 2)
  go_end0
  exact ⟨rfl, ha.1.set2 _, ha.2.trans (grownBy_set _ _ _ _)⟩

set_option maxHeartbeats 1000000 in
theorem must_bad (b : Nat) (v : Value) (ts : List ByteArray) (p : Int) (deep : Int) (t : ByteArray) (w : World) (h : ScanIs w b v p true deep) (hr : RowIs w b v ts) (hp : 0 ≤ p) (hp2 : p ≤ 1000000) (hl : ts.length ≤ 1000) :
    Calls Tryz.prog 324 #[.pointer (some ⟨b, 0, none⟩), .string t] w fun e w' => e = .returned (.tuple #[]) ∧ After w b v p true deep w' := by
  go_enter Tryz.func324, Tryz.ntmps324
  go_wp2_with (go_at_call 231; refine (is_bad b v ts p deep t w h hr hp hp2 hl).mono ?_; rintro e w1 ⟨rfl, ha⟩; obtain ⟨c0, c1, c2, c3⟩ := ha.1.cells; have hf1 := ha.1.free 1; have hf2 := ha.1.free 2)
  go_end0
  exact ⟨rfl, ha.1.set2 _, ha.2.trans (grownBy_set _ _ _ _)⟩

set_option maxHeartbeats 1000000 in
theorem name_yes (b : Nat) (v : Value) (ts : List ByteArray) (p : Int) (deep : Int) (w : World) (h : ScanIs w b v p false deep) (hr : RowIs w b v ts) (hp : 0 ≤ p) (hp2 : p ≤ 1000000) (hl : ts.length ≤ 1000) (hsz : (tokAt ts p).size ≤ maxLen) (hn : nameB (tokAt ts p).data.toList = true) :
    Calls Tryz.prog 326 #[.pointer (some ⟨b, 0, none⟩)] w fun e w' => e = .returned (.string (tokAt ts p)) ∧ After w b v (p + 1) false deep w' := by
  have HN := hide hn
  clear hn
  go_enter Tryz.func326, Tryz.ntmps326
  go_wp2_with (first | (go_at_call 233; refine (look_any b v ts p false deep w h hr hp hl).mono ?_; rintro e w1 ⟨rfl, ha⟩; obtain ⟨c0, c1, c2, c3⟩ := ha.1.cells; have hf1 := ha.1.free 1; have hf2 := ha.1.free 2) | (go_at_call 165; refine (Name_any _ _ hsz).mono ?_; rintro e w2 ⟨rfl, rfl⟩; rw [HN.out]))
  go_ret
  exact ⟨rfl, ha.1.set1 _, ha.2.trans (grownBy_set _ _ _ _)⟩

set_option maxHeartbeats 1000000 in
theorem name_yes_bad (b : Nat) (v : Value) (ts : List ByteArray) (p : Int) (deep : Int) (w : World) (h : ScanIs w b v p true deep) (hr : RowIs w b v ts) (hp : 0 ≤ p) (hp2 : p ≤ 1000000) (hl : ts.length ≤ 1000) (hsz : (tokAt ts p).size ≤ maxLen) (hn : nameB (tokAt ts p).data.toList = true) :
    Calls Tryz.prog 326 #[.pointer (some ⟨b, 0, none⟩)] w fun e w' => e = .returned (.string (tokAt ts p)) ∧ After w b v (p + 1) true deep w' := by
  have HN := hide hn
  clear hn
  go_enter Tryz.func326, Tryz.ntmps326
  go_wp2_with (first | (go_at_call 233; refine (look_any b v ts p true deep w h hr hp hl).mono ?_; rintro e w1 ⟨rfl, ha⟩; obtain ⟨c0, c1, c2, c3⟩ := ha.1.cells; have hf1 := ha.1.free 1; have hf2 := ha.1.free 2) | (go_at_call 165; refine (Name_any _ _ hsz).mono ?_; rintro e w2 ⟨rfl, rfl⟩; rw [HN.out]))
  go_ret
  exact ⟨rfl, ha.1.set1 _, ha.2.trans (grownBy_set _ _ _ _)⟩

set_option maxHeartbeats 1000000 in
theorem name_no (b : Nat) (v : Value) (ts : List ByteArray) (p : Int) (deep : Int) (w : World) (h : ScanIs w b v p false deep) (hr : RowIs w b v ts) (hp : 0 ≤ p) (_hp2 : p ≤ 1000000) (hl : ts.length ≤ 1000) (hsz : (tokAt ts p).size ≤ maxLen) (hn : nameB (tokAt ts p).data.toList = false) :
    Calls Tryz.prog 326 #[.pointer (some ⟨b, 0, none⟩)] w fun e w' => e = .returned (.string ⟨#[]⟩) ∧ After w b v p true deep w' := by
  have HN := hide hn
  clear hn
  go_enter Tryz.func326, Tryz.ntmps326
  go_wp2_with (first | (go_at_call 233; refine (look_any b v ts p false deep w h hr hp hl).mono ?_; rintro e w1 ⟨rfl, ha⟩; obtain ⟨c0, c1, c2, c3⟩ := ha.1.cells; have hf1 := ha.1.free 1; have hf2 := ha.1.free 2) | (go_at_call 165; refine (Name_any _ _ hsz).mono ?_; rintro e w2 ⟨rfl, rfl⟩; rw [HN.out]))
  go_ret
  exact ⟨rfl, ha.1.set2 _, ha.2.trans (grownBy_set _ _ _ _)⟩

set_option maxHeartbeats 1000000 in
theorem name_no_bad (b : Nat) (v : Value) (ts : List ByteArray) (p : Int) (deep : Int) (w : World) (h : ScanIs w b v p true deep) (hr : RowIs w b v ts) (hp : 0 ≤ p) (_hp2 : p ≤ 1000000) (hl : ts.length ≤ 1000) (hsz : (tokAt ts p).size ≤ maxLen) (hn : nameB (tokAt ts p).data.toList = false) :
    Calls Tryz.prog 326 #[.pointer (some ⟨b, 0, none⟩)] w fun e w' => e = .returned (.string ⟨#[]⟩) ∧ After w b v p true deep w' := by
  have HN := hide hn
  clear hn
  go_enter Tryz.func326, Tryz.ntmps326
  go_wp2_with (first | (go_at_call 233; refine (look_any b v ts p true deep w h hr hp hl).mono ?_; rintro e w1 ⟨rfl, ha⟩; obtain ⟨c0, c1, c2, c3⟩ := ha.1.cells; have hf1 := ha.1.free 1; have hf2 := ha.1.free 2) | (go_at_call 165; refine (Name_any _ _ hsz).mono ?_; rintro e w2 ⟨rfl, rfl⟩; rw [HN.out]))
  go_ret
  exact ⟨rfl, ha.1.set2 _, ha.2.trans (grownBy_set _ _ _ _)⟩

set_option maxHeartbeats 1000000 in
theorem deep_any (b : Nat) (v : Value) (p : Int) (bad : Bool) (deep d : Int) (w : World) (h : ScanIs w b v p bad deep) :
    Calls Tryz.prog 323 #[.pointer (some ⟨b, 0, none⟩), .int .i64 d] w fun e w' => e = .returned (.tuple #[]) ∧ After w b v p bad (max deep d) w' := by
  obtain ⟨c0, c1, c2, c3⟩ := h.cells
  have hf3 := h.free 3
  by_cases hd : deep < d
  · have HM : Hid (max deep d = d) := hide (by omega)
    go_enter Tryz.func323, Tryz.ntmps323
    go_wp2_with fail
    go_end0
    rw [HM.out]
    exact ⟨rfl, h.set3 _, grownBy_set _ _ _ _⟩
  · have HM : Hid (max deep d = deep) := hide (by omega)
    go_enter Tryz.func323, Tryz.ntmps323
    go_wp2_with fail
    go_end0
    rw [HM.out]
    exact ⟨rfl, h, grownBy_refl _ _⟩
end Go.Proofs.YtbkeflgafjnefaaGreatDoor
namespace Go.Proofs.YtbkeflgafjnefaaGreatDoor
open Go.RowKit
open Trib

/-- The kinds of the tokens from the place p on. -/
def Kds (ts : List ByteArray) (p : Nat) : List Nat := (ts.map fun t => kindOf t.data.toList).drop p
/-- What came in: no token is too long to be a string, and there are at most 400. -/
def Small (ts : List ByteArray) : Prop := ts.length ≤ 400 ∧ (∀ t ∈ ts, t.size ≤ maxLen) ∧ ∀ t ∈ ts, kindOf t.data.toList = 3 → 2 ≤ t.size
theorem Kds_lt {ts : List ByteArray} {p : Nat} (h : p < ts.length) : Kds ts p = kindOf (tokAt ts p).data.toList :: Kds ts (p + 1) := by
  rw [Kds, List.drop_eq_getElem_cons (by simpa using h), List.getElem_map]
  simp [tokAt, List.getD, List.getElem?_eq_getElem h, Kds]
theorem Kds_ge {ts : List ByteArray} {p : Nat} (h : ¬ p < ts.length) : Kds ts p = [] := by
  rw [Kds, List.drop_eq_nil_of_le (by simp; omega)]
theorem tokAt_ge {ts : List ByteArray} {p : Nat} (h : ¬ p < ts.length) : tokAt ts p = ⟨#[]⟩ := by
  rw [tokAt, Int.toNat_natCast, List.getD, List.getElem?_eq_none (by omega)]; rfl
theorem Small.tok {ts : List ByteArray} (h : Small ts) (p : Int) : (tokAt ts p).size ≤ maxLen := by
  by_cases hp : p.toNat < ts.length
  · rw [tokAt, List.getD, List.getElem?_eq_getElem hp]; exact h.2.1 _ (List.getElem_mem hp)
  · rw [tokAt, List.getD, List.getElem?_eq_none (by omega)]; exact Nat.zero_le _
theorem Small.word {ts : List ByteArray} (h : Small ts) (p : Nat) (hk : kindOf (tokAt ts p).data.toList = 3) : 2 ≤ (tokAt ts p).size := by
  by_cases hp : p < ts.length
  · have e : tokAt ts p = ts[p] := by rw [tokAt, Int.toNat_natCast, List.getD, List.getElem?_eq_getElem hp]; rfl
    rw [e] at hk ⊢
    exact h.2.2 _ (List.getElem_mem hp) hk
  · rw [tokAt_ge hp] at hk; exact absurd hk (by decide)
theorem beq_toList (a c : ByteArray) : (a.toList == c.toList) = decide (a.data.toList = c.data.toList) := by
  rw [ByteArray.toList_eq, ByteArray.toList_eq, Bool.eq_iff_iff]; simp
/-- The kind of the next token (0: there is none). -/
def kAt (ts : List ByteArray) (p : Nat) : Nat := (Kds ts p).headD 0
theorem kAt_tok (ts : List ByteArray) (p : Nat) : kAt ts p = kindOf (tokAt ts p).data.toList := by
  by_cases h : p < ts.length
  · rw [kAt, Kds_lt h]; rfl
  · rw [kAt, Kds_ge h, tokAt_ge h]; rfl
theorem next_yes {ts : List ByteArray} {p k : Nat} {t : ByteArray} (h4 : 4 ≤ k) (hk : k < 33) (ht : t.data.toList = litOf k) (h : kAt ts p = k) : NextIs ts p t := by
  rw [NextIs, beq_toList, ht, decide_eq_true_eq, ← kindOf_iff _ _ h4 hk, ← kAt_tok]; exact h
theorem next_no {ts : List ByteArray} {p k : Nat} {t : ByteArray} (h4 : 4 ≤ k) (hk : k < 33) (ht : t.data.toList = litOf k) (h : kAt ts p ≠ k) : NextNot ts p t := by
  rw [NextNot, beq_toList, ht, decide_eq_false_iff_not, ← kindOf_iff _ _ h4 hk, ← kAt_tok]; exact h
theorem name_next (ts : List ByteArray) (p : Nat) : nameB (tokAt ts p).data.toList = decide (kAt ts p = 1) := by
  rw [Bool.eq_iff_iff, decide_eq_true_eq, kAt_tok, kindOf_name]
theorem kAt_lt {ts : List ByteArray} {p : Nat} (h : kAt ts p ≠ 0) : p < ts.length := by
  rcases Nat.lt_or_ge p ts.length with h' | h'
  · exact h'
  · exact absurd (by rw [kAt, Kds_ge (by omega)]; rfl) h
theorem must_Kds (ts : List ByteArray) (p k : Nat) (hk : k ≠ 0) : must k (Kds ts p) = if kAt ts p = k then some (Kds ts (p + 1)) else none := by
  by_cases h : p < ts.length
  · rw [kAt, Kds_lt h]; rfl
  · rw [kAt, Kds_ge h, if_neg]
    · rfl
    · intro e; exact hk e.symm

theorem After.refl {w : World} {b : Nat} {v : Value} {p : Int} {bad : Bool} {deep : Int} (h : ScanIs w b v p bad deep) : After w b v p bad deep w := ⟨h, grownBy_refl _ _⟩
theorem After.trans {w w1 w2 : World} {b : Nat} {v : Value} {p1 p2 : Int} {bad1 bad2 : Bool} {d1 d2 : Int} (h1 : After w b v p1 bad1 d1 w1) (h2 : After w1 b v p2 bad2 d2 w2) : After w b v p2 bad2 d2 w2 := ⟨h2.1, h1.2.trans h2.2⟩
theorem After.alloc {w w1 : World} {b : Nat} {v : Value} {p : Int} {bad : Bool} {deep : Int} (h : After w b v p bad deep w1) (o : Obj) : After w b v p bad deep (w1.alloc o) :=
  ⟨h.1.alloc o, h.2.trans (World.grownBy_alloc w1 o _)⟩

/-- What a reading of a part leaves: what is left of the tokens and the greatest depth; or it is bad, and not too far on. -/
def Out (w : World) (b : Nat) (v : Value) (ts : List ByteArray) (p0 : Nat) (deep : Int) (B : Int) (w' : World) : Option (List Nat × Int) → Prop
  | some (ks, m) => ∃ p' : Nat, Kds ts p' = ks ∧ p0 ≤ p' ∧ p' ≤ ts.length ∧ After w b v p' false (max deep m) w'
  | none => ∃ (p' : Int) (deep' : Int), 0 ≤ p' ∧ p' ≤ B ∧ After w b v p' true deep' w'
/-- A pointer came out. -/
def Ptr (e : Ending) : Prop := ∃ x, e = .returned (.pointer (some x))

set_option maxHeartbeats 1000000 in
theorem name_bad (b : Nat) (v : Value) (ts : List ByteArray) (p : Int) (deep : Int) (w : World) (h : ScanIs w b v p true deep) (hr : RowIs w b v ts) (hp : 0 ≤ p) (hp2 : p ≤ 1000000) (hs : Small ts) :
    Calls Tryz.prog 326 #[.pointer (some ⟨b, 0, none⟩)] w fun e w' => ∃ t p', e = .returned (.string t) ∧ 0 ≤ p' ∧ (p' = p ∨ p' ≤ ts.length) ∧ After w b v p' true deep w' := by
  obtain ⟨n, rfl⟩ := Int.eq_ofNat_of_zero_le hp
  cases hn : nameB (tokAt ts n).data.toList
  · refine (name_no_bad b v ts n deep w h hr hp hp2 (by have := hs.1; omega) (hs.tok _) hn).mono ?_
    rintro e w' ⟨rfl, ha⟩
    exact ⟨_, _, rfl, hp, Or.inl rfl, ha⟩
  · refine (name_yes_bad b v ts n deep w h hr hp hp2 (by have := hs.1; omega) (hs.tok _) hn).mono ?_
    rintro e w' ⟨rfl, ha⟩
    have : n < ts.length := kAt_lt (by rw [name_next] at hn; simp at hn; omega)
    exact ⟨_, _, rfl, by omega, Or.inr (by omega), ha⟩

set_option maxHeartbeats 1000000 in
/-- column, where all is bad already. -/
theorem column_bad (b : Nat) (v : Value) (ts : List ByteArray) (p : Int) (deep : Int) (w : World) (h : ScanIs w b v p true deep) (hr : RowIs w b v ts) (hp : 0 ≤ p) (hp2 : p ≤ 100000) (hs : Small ts) :
    Calls Tryz.prog 328 #[.pointer (some ⟨b, 0, none⟩)] w fun e w' => Ptr e ∧ ∃ p', 0 ≤ p' ∧ (p' = p ∨ p' ≤ ts.length) ∧ After w b v p' true deep w' := by
  have hs1 := hs.1
  go_enter Tryz.func328, Tryz.ntmps328
  go_wp2_with fail
  refine (name_bad b v ts p deep _ h hr hp (by omega) hs).mono ?_
  rintro e w1 ⟨t1, p1, rfl, h01, hp1, ha1⟩
  have hr1 := ha1.row hr
  go_wp2_with fail
  refine (must_bad b v ts p1 deep _ _ ha1.1 hr1 h01 (by omega) (by omega)).mono ?_
  rintro e w2 ⟨rfl, ha2⟩
  have hr2 := ha2.row hr1
  go_wp2_with fail
  refine (name_bad b v ts p1 deep _ ha2.1 hr2 h01 (by omega) hs).mono ?_
  rintro e w3 ⟨t3, p3, rfl, h03, hp3, ha3⟩
  go_wp2_with fail
  go_ret
  exact ⟨⟨_, rfl⟩, p3, h03, by omega, ((ha1.trans ha2).trans ha3).alloc _⟩

end Go.Proofs.YtbkeflgafjnefaaGreatDoor
namespace Go.Proofs.YtbkeflgafjnefaaGreatDoor
open Go.RowKit
open Trib

theorem ne_name {ts : List ByteArray} {p : Nat} (h : kAt ts p ≠ 1) : nameB (tokAt ts p).data.toList = false := by rw [name_next]; simpa using h
theorem is_name {ts : List ByteArray} {p : Nat} (h : kAt ts p = 1) : nameB (tokAt ts p).data.toList = true := by rw [name_next]; simpa using h

theorem must_any (b : Nat) (v : Value) (ts : List ByteArray) (p k : Nat) (deep : Int) (t : ByteArray) (w : World) (h4 : 4 ≤ k) (hk : k < 33) (ht : t.data.toList = litOf k) (h : ScanIs w b v p false deep) (hr : RowIs w b v ts) (hp : p ≤ ts.length) (hs : Small ts) :
    Calls Tryz.prog 324 #[.pointer (some ⟨b, 0, none⟩), .string t] w fun e w' => e = .returned (.tuple #[]) ∧ ((kAt ts p = k ∧ p + 1 ≤ ts.length ∧ After w b v (p + 1 : Nat) false deep w') ∨ (kAt ts p ≠ k ∧ After w b v p true deep w')) := by
  have hs1 := hs.1
  by_cases e : kAt ts p = k
  · refine (must_yes b v ts p deep t w h hr (by omega) (by omega) (by omega) (next_yes h4 hk ht e)).mono ?_
    rintro _ w' ⟨rfl, ha⟩
    exact ⟨rfl, Or.inl ⟨e, kAt_lt (by omega), ha⟩⟩
  · refine (must_no b v ts p deep t w h hr (by omega) (by omega) (by omega) (next_no h4 hk ht e)).mono ?_
    rintro _ w' ⟨rfl, ha⟩
    exact ⟨rfl, Or.inr ⟨e, ha⟩⟩
theorem name_any (b : Nat) (v : Value) (ts : List ByteArray) (p : Nat) (deep : Int) (w : World) (h : ScanIs w b v p false deep) (hr : RowIs w b v ts) (hp : p ≤ ts.length) (hs : Small ts) :
    Calls Tryz.prog 326 #[.pointer (some ⟨b, 0, none⟩)] w fun e w' => ∃ t, e = .returned (.string t) ∧ ((kAt ts p = 1 ∧ p + 1 ≤ ts.length ∧ After w b v (p + 1 : Nat) false deep w') ∨ (kAt ts p ≠ 1 ∧ After w b v p true deep w')) := by
  have hs1 := hs.1
  by_cases e : kAt ts p = 1
  · refine (name_yes b v ts p deep w h hr (by omega) (by omega) (by omega) (hs.tok _) (is_name e)).mono ?_
    rintro _ w' ⟨rfl, ha⟩
    exact ⟨_, rfl, Or.inl ⟨e, kAt_lt (by omega), ha⟩⟩
  · refine (name_no b v ts p deep w h hr (by omega) (by omega) (by omega) (hs.tok _) (ne_name e)).mono ?_
    rintro _ w' ⟨rfl, ha⟩
    exact ⟨_, rfl, Or.inr ⟨e, ha⟩⟩

set_option maxHeartbeats 1000000 in
theorem column_any (b : Nat) (v : Value) (ts : List ByteArray) (p : Nat) (deep : Int) (w : World) (h : ScanIs w b v p false deep) (hr : RowIs w b v ts) (hp : p ≤ ts.length) (hs : Small ts) :
    Calls Tryz.prog 328 #[.pointer (some ⟨b, 0, none⟩)] w fun e w' => Ptr e ∧ Out w b v ts p deep ts.length w' ((colP (Kds ts p)).bind fun k => some (k, deep)) := by
  have hs1 := hs.1
  generalize hR : ((colP (Kds ts p)).bind fun k => some (k, deep)) = res
  have HR := hide hR
  clear hR
  go_enter Tryz.func328, Tryz.ntmps328
  go_wp2_with fail
  refine (name_any b v ts p deep _ h hr hp hs).mono ?_
  rintro e w1 ⟨t1, rfl, ⟨k1, hp1, ha1⟩ | ⟨k1, ha1⟩⟩
  · have hr1 := ha1.row hr
    have K1 := hide k1
    clear k1
    go_wp2_with fail
    refine (must_any b v ts (p + 1) 7 deep _ _ (by decide) (by decide) (by decide) ha1.1 hr1 hp1 hs).mono ?_
    rintro e w2 ⟨rfl, ⟨k2, hp2, ha2⟩ | ⟨k2, ha2⟩⟩
    · have hr2 := ha2.row hr1
      have K2 := hide k2
      clear k2
      go_wp2_with fail
      refine (name_any b v ts (p + 1 + 1) deep _ ha2.1 hr2 hp2 hs).mono ?_
      rintro e w3 ⟨t3, rfl, ⟨k3, hp3, ha3⟩ | ⟨k3, ha3⟩⟩
      · have K3 := hide k3
        clear k3
        go_wp2_with fail
        go_ret
        refine ⟨⟨_, rfl⟩, ?_⟩
        rw [← HR.out, colP, must_Kds ts p 1 (by decide), if_pos K1.out, Option.bind_some, must_Kds ts (p + 1) 7 (by decide), if_pos K2.out, Option.bind_some, must_Kds ts (p + 1 + 1) 1 (by decide), if_pos K3.out]
        exact ⟨p + 1 + 1 + 1, rfl, by omega, hp3, by rw [Int.max_self]; exact ((ha1.trans ha2).trans ha3).alloc _⟩
      · have K3 := hide k3
        clear k3
        go_wp2_with fail
        go_ret
        refine ⟨⟨_, rfl⟩, ?_⟩
        rw [← HR.out, colP, must_Kds ts p 1 (by decide), if_pos K1.out, Option.bind_some, must_Kds ts (p + 1) 7 (by decide), if_pos K2.out, Option.bind_some, must_Kds ts (p + 1 + 1) 1 (by decide), if_neg K3.out]
        exact ⟨_, _, by omega, by omega, ((ha1.trans ha2).trans ha3).alloc _⟩
    · have hr2 := ha2.row hr1
      have K2 := hide k2
      clear k2
      go_wp2_with fail
      refine (name_bad b v ts (p + 1 : Nat) deep _ ha2.1 hr2 (by omega) (by omega) hs).mono ?_
      rintro e w3 ⟨t3, p3, rfl, h03, hp3, ha3⟩
      go_wp2_with fail
      go_ret
      refine ⟨⟨_, rfl⟩, ?_⟩
      rw [← HR.out, colP, must_Kds ts p 1 (by decide), if_pos K1.out, Option.bind_some, must_Kds ts (p + 1) 7 (by decide), if_neg K2.out]
      exact ⟨_, _, h03, by omega, ((ha1.trans ha2).trans ha3).alloc _⟩
  · have hr1 := ha1.row hr
    have K1 := hide k1
    clear k1
    go_wp2_with fail
    refine (must_bad b v ts p deep _ _ ha1.1 hr1 (by omega) (by omega) (by omega)).mono ?_
    rintro e w2 ⟨rfl, ha2⟩
    have hr2 := ha2.row hr1
    go_wp2_with fail
    refine (name_bad b v ts p deep _ ha2.1 hr2 (by omega) (by omega) hs).mono ?_
    rintro e w3 ⟨t3, p3, rfl, h03, hp3, ha3⟩
    go_wp2_with fail
    go_ret
    refine ⟨⟨_, rfl⟩, ?_⟩
    rw [← HR.out, colP, must_Kds ts p 1 (by decide), if_neg K1.out]
    exact ⟨_, _, h03, by omega, ((ha1.trans ha2).trans ha3).alloc _⟩

end Go.Proofs.YtbkeflgafjnefaaGreatDoor
namespace Go.Proofs.YtbkeflgafjnefaaGreatDoor
open Go.RowKit
open Trib

/-- How far the reading may run on where it is bad. -/
def Far (ts : List ByteArray) (f : Nat) : Int := ts.length + 4 * f + 4
def ExprOk (f : Nat) : Prop := ∀ (b : Nat) (v : Value) (ts : List ByteArray) (p : Nat) (deep d : Int) (w : World), ScanIs w b v p false deep → RowIs w b v ts → p ≤ ts.length → Small ts → 0 ≤ d → d + f ≤ 10000 → f ≤ 10000 → 8 * (Kds ts p).length + 1 ≤ f →
  Calls Tryz.prog 325 #[.pointer (some ⟨b, 0, none⟩), .int .i64 d] w fun e w' => Ptr e ∧ Out w b v ts p deep (Far ts f) w' (R f 0 (Kds ts p) d)
/-- The next token's tests in expr, by its kind. -/
structure ExprFacts (s : ByteArray) (k : Nat) : Prop where
  null : (s.toList == [110, 117, 108, 108]) = decide (k = 24)
  now : (s.toList == [110, 111, 119]) = decide (k = 30)
  count : (s.toList == [99, 111, 117, 110, 116]) = decide (k = 26)
  sum : (s.toList == [115, 117, 109]) = decide (k = 27)
  min : (s.toList == [109, 105, 110]) = decide (k = 28)
  max : (s.toList == [109, 97, 120]) = decide (k = 29)
  opn : (s.toList == [40]) = decide (k = 4)
  num : (numRes s.data.toList).2 = decide (k = 2)
theorem lit_fact {s : ByteArray} {k : Nat} (hk : kindOf s.data.toList = k) (j : Nat) (h4 : 4 ≤ j) (hj : j < 33) (l : List UInt8) (hl : l = litOf j) : (s.toList == l) = decide (k = j) := by
  rw [ByteArray.toList_eq, Bool.eq_iff_iff, beq_iff_eq, decide_eq_true_eq, ← hk, hl, kindOf_iff _ _ h4 hj]
theorem exprFacts {s : ByteArray} {k : Nat} (hk : kindOf s.data.toList = k) : ExprFacts s k where
  null := lit_fact hk 24 (by decide) (by decide) _ (by decide)
  now := lit_fact hk 30 (by decide) (by decide) _ (by decide)
  count := lit_fact hk 26 (by decide) (by decide) _ (by decide)
  sum := lit_fact hk 27 (by decide) (by decide) _ (by decide)
  min := lit_fact hk 28 (by decide) (by decide) _ (by decide)
  max := lit_fact hk 29 (by decide) (by decide) _ (by decide)
  opn := lit_fact hk 4 (by decide) (by decide) _ (by decide)
  num := by
    show numOk s.data.toList = _
    rw [Bool.eq_iff_iff, decide_eq_true_eq, ← hk, kindOf_num]
theorem quote_fact {s : ByteArray} {k : Nat} (hk : kindOf s.data.toList = k) (h0 : 0 < s.size) : ((s[0].toNat : Int) == 39) = decide (k = 3) := by
  rw [Bool.eq_iff_iff, decide_eq_true_eq, ← hk, kindOf_quote, head_some s h0, Option.some_inj, ← UInt8.toNat_inj]
  simp; omega
theorem empty_fact (s : ByteArray) : s.toList.isEmpty = decide (s.size = 0) := by
  rw [ByteArray.toList_eq, ← len_eq]; cases s.data.toList <;> simp

/-- expr, where all is bad already. -/
theorem expr_bad (b : Nat) (v : Value) (ts : List ByteArray) (p : Int) (deep d : Int) (w : World) (h : ScanIs w b v p true deep) (hr : RowIs w b v ts) (hp : 0 ≤ p) (hs : Small ts) :
    Calls Tryz.prog 325 #[.pointer (some ⟨b, 0, none⟩), .int .i64 d] w fun e w' => Ptr e ∧ After w b v p true (max deep d) w' := by
  have hs1 := hs.1
  go_enter Tryz.func325, Tryz.ntmps325
  go_wp2_with fail
  refine (deep_any b v p true deep d _ h).mono ?_
  rintro e w1 ⟨rfl, ha1⟩
  have hr1 := ha1.row hr
  go_wp2_with fail
  refine (look_any b v ts p true _ _ ha1.1 hr1 hp (by omega)).mono ?_
  rintro e w2 ⟨rfl, ha2⟩
  obtain ⟨c0, c1, c2, c3⟩ := ha2.1.cells
  have hf2 := ha2.1.free 2
  go_wp2_with fail
  go_ret
  exact ⟨⟨_, rfl⟩, After.alloc ⟨ha2.1.set2 _, (ha1.2.trans ha2.2).trans (grownBy_set _ _ _ _)⟩ _⟩

theorem R_leaf {f : Nat} {ks : List Nat} {d : Int} (h : ks.headD 0 = 24 ∨ ks.headD 0 = 30 ∨ ks.headD 0 = 2 ∨ ks.headD 0 = 3) : R (f + 1) 0 ks d = some (ks.tail, d) := by
  rw [R, if_pos h]
theorem Kds_tail (ts : List ByteArray) (p : Nat) : (Kds ts p).tail = Kds ts (p + 1) := by rw [Kds, Kds, List.tail_drop]

end Go.Proofs.YtbkeflgafjnefaaGreatDoor
namespace Go.Proofs.YtbkeflgafjnefaaGreatDoor
open Go.RowKit
open Trib

/-- Facts by the kind, under a name. -/
def KindIs (s : ByteArray) (k : Nat) : Prop := kindOf s.data.toList = k
theorem number_kind {s : ByteArray} {k : Nat} (hk : KindIs s k) (hs : s.size ≤ maxLen) (w : World) :
    Calls Tryz.prog 232 #[.string s] w fun e w' => ∃ n : Int, e = .returned (.tuple #[.int .i64 n, .bool (decide (k = 2))]) ∧ w = w' := by
  refine (number_any s w hs).mono ?_
  rintro e w' ⟨rfl, rfl⟩
  exact ⟨_, by rw [(exprFacts hk).num], rfl⟩
theorem litF {s : ByteArray} {k : Nat} (hk : KindIs s k) (j : Nat) (h4 : 4 ≤ j) (hj : j < 33) (l : List UInt8) (hl : l = litOf j) (hne : k ≠ j) : (s.toList == l) = false := by
  rw [lit_fact hk j h4 hj l hl]; simpa using hne
theorem litT {s : ByteArray} {k : Nat} (hk : KindIs s k) (h4 : 4 ≤ k) (hj : k < 33) (l : List UInt8) (hl : l = litOf k) : (s.toList == l) = true := by
  rw [lit_fact hk k h4 hj l hl]; simp
theorem nonempty_of {s : ByteArray} {k : Nat} (hk : KindIs s k) (h0 : k ≠ 0) : 0 < s.size := by
  rcases Nat.eq_zero_or_pos s.size with h | h
  · have : s.data.toList = [] := List.eq_nil_of_length_eq_zero (by rw [len_eq]; exact h)
    rw [KindIs, this] at hk
    exact absurd hk.symm h0
  · exact h

set_option maxHeartbeats 4000000 in
theorem expr_leaf (f : Nat) (k : Nat) (hkk : k = 24 ∨ k = 30 ∨ k = 2 ∨ k = 3) (b : Nat) (v : Value) (ts : List ByteArray) (p : Nat) (deep d : Int) (w : World) (h : ScanIs w b v p false deep) (hr : RowIs w b v ts) (_hp : p ≤ ts.length) (hs : Small ts) (hk : kAt ts p = k) :
    Calls Tryz.prog 325 #[.pointer (some ⟨b, 0, none⟩), .int .i64 d] w fun e w' => Ptr e ∧ Out w b v ts p deep (Far ts (f + 1)) w' (R (f + 1) 0 (Kds ts p) d) := by
  have hs1 := hs.1
  have hlt : p < ts.length := kAt_lt (by omega)
  rw [R_leaf (by rw [show (Kds ts p).headD 0 = k from hk]; exact hkk), Kds_tail]
  have hK : KindIs (tokAt ts p) k := (kAt_tok ts p).symm.trans hk
  have h0 := nonempty_of hK (by omega)
  have hsz := hs.tok p
  have hw := hs.word p
  have fe : (tokAt ts p).toList.isEmpty = false := by rw [empty_fact, decide_eq_false_iff_not]; omega
  have fq := quote_fact hK h0
  clear hk
  go_enter Tryz.func325, Tryz.ntmps325
  go_wp2_with fail
  refine (deep_any b v p false deep d _ h).mono ?_
  rintro e w1 ⟨rfl, ha1⟩
  have hr1 := ha1.row hr
  go_wp2_with fail
  refine (look_any b v ts p false _ _ ha1.1 hr1 (by omega) (by omega)).mono ?_
  rintro e w2 ⟨rfl, ha2⟩
  obtain ⟨c0, c1, c2, c3⟩ := ha2.1.cells
  have hf1 := ha2.1.free 1
  have hr2 := ha2.row hr1
  have HA : After w b v ((p : Int) + 1) false (max deep d) (w2.setCell ⟨b, 1, none⟩ (.int .i64 ((p : Int) + 1))) := ⟨ha2.1.set1 _, (ha1.2.trans ha2.2).trans (grownBy_set _ _ _ _)⟩
  have hwd : k = 3 → 2 ≤ (tokAt ts p).size := fun e => hw (by rw [← e]; exact hK)
  clear hw
  generalize tokAt ts p = s at *
  rcases hkk with rfl | rfl | rfl | rfl
  · have g1 := litT hK (by decide) (by decide) [110, 117, 108, 108] (by decide)
    go_wp2_with (go_at_call 232; refine (number_kind hK hsz _).mono ?_; rintro e w3 ⟨n, rfl, rfl⟩)
    go_ret
    exact ⟨⟨_, rfl⟩, p + 1, rfl, by omega, hlt, HA.alloc _⟩
  · have g1 := litF hK 24 (by decide) (by decide) [110, 117, 108, 108] (by decide) (by decide)
    have g2 := litT hK (by decide) (by decide) [110, 111, 119] (by decide)
    go_wp2_with (go_at_call 232; refine (number_kind hK hsz _).mono ?_; rintro e w3 ⟨n, rfl, rfl⟩)
    go_ret
    exact ⟨⟨_, rfl⟩, p + 1, rfl, by omega, hlt, HA.alloc _⟩
  · have g1 := litF hK 24 (by decide) (by decide) [110, 117, 108, 108] (by decide) (by decide)
    have g2 := litF hK 30 (by decide) (by decide) [110, 111, 119] (by decide) (by decide)
    have g3 := litF hK 26 (by decide) (by decide) [99, 111, 117, 110, 116] (by decide) (by decide)
    have g4 := litF hK 27 (by decide) (by decide) [115, 117, 109] (by decide) (by decide)
    have g5 := litF hK 28 (by decide) (by decide) [109, 105, 110] (by decide) (by decide)
    have g6 := litF hK 29 (by decide) (by decide) [109, 97, 120] (by decide) (by decide)
    go_wp2_with (go_at_call 232; refine (number_kind hK hsz _).mono ?_; rintro e w3 ⟨n, rfl, rfl⟩)
    go_ret
    exact ⟨⟨_, rfl⟩, p + 1, rfl, by omega, hlt, HA.alloc _⟩
  · have g1 := litF hK 24 (by decide) (by decide) [110, 117, 108, 108] (by decide) (by decide)
    have g2 := litF hK 30 (by decide) (by decide) [110, 111, 119] (by decide) (by decide)
    have g3 := litF hK 26 (by decide) (by decide) [99, 111, 117, 110, 116] (by decide) (by decide)
    have g4 := litF hK 27 (by decide) (by decide) [115, 117, 109] (by decide) (by decide)
    have g5 := litF hK 28 (by decide) (by decide) [109, 105, 110] (by decide) (by decide)
    have g6 := litF hK 29 (by decide) (by decide) [109, 97, 120] (by decide) (by decide)
    have g7 := hwd rfl
    have hsz' : s.size ≤ 9223372036854775807 := by unfold maxLen at hsz; omega
    go_wp2_with (go_at_call 232; refine (number_kind hK hsz _).mono ?_; rintro e w3 ⟨n, rfl, rfl⟩)
    go_ret
    exact ⟨⟨_, rfl⟩, p + 1, rfl, by omega, hlt, HA.alloc _⟩
end Go.Proofs.YtbkeflgafjnefaaGreatDoor
namespace Go.Proofs.YtbkeflgafjnefaaGreatDoor
open Go.RowKit
open Trib

theorem R_col {f : Nat} {ks : List Nat} {d : Int} (h1 : ¬ (ks.headD 0 = 24 ∨ ks.headD 0 = 30 ∨ ks.headD 0 = 2 ∨ ks.headD 0 = 3)) (h2 : ¬ (26 ≤ ks.headD 0 ∧ ks.headD 0 ≤ 29)) (h3 : ks.headD 0 ≠ 4) : R (f + 1) 0 ks d = (colP ks).bind fun k1 => some (k1, d) := by
  rw [R, if_neg h1, if_neg h2, if_neg h3]
theorem Out.deep {w w' : World} {b : Nat} {v : Value} {ts : List ByteArray} {p0 : Nat} {deep d B B' : Int} {o : Option (List Nat)} (h : Out w b v ts p0 (max deep d) B w' (o.bind fun k => some (k, max deep d))) (hB : B ≤ B') : Out w b v ts p0 deep B' w' (o.bind fun k => some (k, d)) := by
  cases o with
  | none => obtain ⟨p', d', h0, h1, h2⟩ := h; exact ⟨p', d', h0, by omega, h2⟩
  | some k => obtain ⟨p', h0, h00, h1, h2⟩ := h; exact ⟨p', h0, h00, h1, by rw [Int.max_self] at h2; exact h2⟩
theorem Out.from {w w1 w' : World} {b : Nat} {v : Value} {ts : List ByteArray} {p0 : Nat} {p deep d1 B : Int} {bad : Bool} {o : Option (List Nat × Int)} (ha : After w b v p bad d1 w1) (h : Out w1 b v ts p0 deep B w' o) : Out w b v ts p0 deep B w' o := by
  match o, h with
  | none, ⟨p', d', h0, h1, h2⟩ => exact ⟨p', d', h0, h1, ha.trans h2⟩
  | some (k, m), ⟨p', h0, h00, h1, h2⟩ => exact ⟨p', h0, h00, h1, ha.trans h2⟩

set_option maxHeartbeats 4000000 in
theorem expr_col (f : Nat) (b : Nat) (v : Value) (ts : List ByteArray) (p : Nat) (deep d : Int) (w : World) (h : ScanIs w b v p false deep) (hr : RowIs w b v ts) (hp : p ≤ ts.length) (hs : Small ts)
    (h1 : ¬ (kAt ts p = 24 ∨ kAt ts p = 30 ∨ kAt ts p = 2 ∨ kAt ts p = 3)) (h2 : ¬ (26 ≤ kAt ts p ∧ kAt ts p ≤ 29)) (h3 : kAt ts p ≠ 4) :
    Calls Tryz.prog 325 #[.pointer (some ⟨b, 0, none⟩), .int .i64 d] w fun e w' => Ptr e ∧ Out w b v ts p deep (Far ts (f + 1)) w' (R (f + 1) 0 (Kds ts p) d) := by
  have hs1 := hs.1
  rw [R_col h1 h2 h3]
  obtain ⟨k, hk⟩ : ∃ k, kAt ts p = k := ⟨_, rfl⟩
  have hK : KindIs (tokAt ts p) k := (kAt_tok ts p).symm.trans hk
  rw [hk] at h1 h2 h3
  have hsz := hs.tok p
  have HC := hide (column_any b v ts p (max deep d))
  have HE : Hid (tokAt ts p = ⟨#[]⟩ → colP (Kds ts p) = none) := hide fun e => by
    rw [colP, must_Kds ts p 1 (by decide), if_neg]; · rfl
    rw [kAt_tok, e]; decide
  have hfar : Hid ((p : Int) ≤ Far ts (f + 1) ∧ (ts.length : Int) ≤ Far ts (f + 1)) := hide (by unfold Far; omega)
  go_enter Tryz.func325, Tryz.ntmps325
  go_wp2_with fail
  refine (deep_any b v p false deep d _ h).mono ?_
  rintro e w1 ⟨rfl, ha1⟩
  have hr1 := ha1.row hr
  go_wp2_with fail
  refine (look_any b v ts p false _ _ ha1.1 hr1 (by omega) (by omega)).mono ?_
  rintro e w2 ⟨rfl, ha2⟩
  obtain ⟨c0, c1, c2, c3⟩ := ha2.1.cells
  have hf2 := ha2.1.free 2
  have hr2 := ha2.row hr1
  clear hk
  have g1 := litF hK 24 (by decide) (by decide) [110, 117, 108, 108] (by decide) (by omega)
  have g2 := litF hK 30 (by decide) (by decide) [110, 111, 119] (by decide) (by omega)
  have g3 := litF hK 26 (by decide) (by decide) [99, 111, 117, 110, 116] (by decide) (by omega)
  have g4 := litF hK 27 (by decide) (by decide) [115, 117, 109] (by decide) (by omega)
  have g5 := litF hK 28 (by decide) (by decide) [109, 105, 110] (by decide) (by omega)
  have g6 := litF hK 29 (by decide) (by decide) [109, 97, 120] (by decide) (by omega)
  have g7 := litF hK 4 (by decide) (by decide) [40] (by decide) (by omega)
  have g8 : decide (k = 2) = false := by simp; omega
  have hN := hide (fun w => number_kind hK hsz w)
  rw [g8] at hN
  by_cases h0 : (tokAt ts p).size = 0
  · have he : tokAt ts p = ⟨#[]⟩ := by
      apply ByteArray.ext; apply Array.ext'; exact List.eq_nil_of_length_eq_zero (by rw [len_eq]; exact h0)
    have HN := hide (HE.out he)
    have fe : (tokAt ts p).toList.isEmpty = true := by rw [empty_fact, h0]; rfl
    clear he
    generalize tokAt ts p = s at *
    go_wp2_with fail
    go_ret
    rw [HN.out]
    exact ⟨⟨_, rfl⟩, p, _, by omega, hfar.out.1, After.alloc ⟨ha2.1.set2 _, (ha1.2.trans ha2.2).trans (grownBy_set _ _ _ _)⟩ _⟩
  · have h0' : 0 < (tokAt ts p).size := by omega
    have fq := quote_fact hK h0'
    rw [show decide (k = 3) = false by simp; omega] at fq
    have fe : (tokAt ts p).toList.isEmpty = false := by rw [empty_fact, decide_eq_false_iff_not]; omega
    generalize tokAt ts p = s at *
    go_wp2_with (go_at_call 232; refine (hN.out _).mono ?_; rintro e w3 ⟨n, rfl, rfl⟩)
    refine (HC.out _ ha2.1 hr2 hp hs).mono ?_
    rintro e w4 ⟨⟨x, rfl⟩, ho⟩
    go_wp2_with fail
    go_ret
    exact ⟨⟨_, rfl⟩, Out.from (ha1.trans ha2) (Out.deep ho hfar.out.2)⟩
end Go.Proofs.YtbkeflgafjnefaaGreatDoor
namespace Go.Proofs.YtbkeflgafjnefaaGreatDoor
open Go.RowKit
open Trib

theorem R_open {f : Nat} {ks : List Nat} {d : Int} (h : ks.headD 0 = 4) : R (f + 1) 0 ks d = (R f 0 ks.tail (d + 1)).bind fun x => if x.1.headD 0 = 11 ∨ x.1.headD 0 = 12 ∨ x.1.headD 0 = 13 then
        (R f 0 x.1.tail (d + 1)).bind fun y => (must 5 y.1).bind fun k3 => some (k3, max d (max x.2 y.2)) else none := by
  rw [R, if_neg (by omega), if_neg (by omega), if_pos h]
theorem Kds_len (ts : List ByteArray) (p : Nat) : (Kds ts p).length = ts.length - p := by simp [Kds]

set_option maxHeartbeats 4000000 in
theorem expr_open (f : Nat) (ih : ExprOk f) (b : Nat) (v : Value) (ts : List ByteArray) (p : Nat) (deep d : Int) (w : World) (h : ScanIs w b v p false deep) (hr : RowIs w b v ts) (_hp : p ≤ ts.length) (hs : Small ts) (hd0 : 0 ≤ d) (hd1 : d + (f + 1 : Nat) ≤ 10000) (hf : f + 1 ≤ 10000) (hn : 8 * (Kds ts p).length + 1 ≤ f + 1)
    (hk : kAt ts p = 4) :
    Calls Tryz.prog 325 #[.pointer (some ⟨b, 0, none⟩), .int .i64 d] w fun e w' => Ptr e ∧ Out w b v ts p deep (Far ts (f + 1)) w' (R (f + 1) 0 (Kds ts p) d) := by
  have hs1 := hs.1
  have hlt : p < ts.length := kAt_lt (by omega)
  rw [Kds_len] at hn
  have hfar : Hid (Far ts (f + 1) = (ts.length : Int) + 4 * (f + 1 : Nat) + 4) := hide rfl
  have hfar0 : Hid (Far ts f = (ts.length : Int) + 4 * f + 4) := hide rfl
  generalize hR : R (f + 1) 0 (Kds ts p) d = res
  rw [R_open hk, Kds_tail] at hR
  have HR := hide hR
  clear hR
  have hK : KindIs (tokAt ts p) 4 := (kAt_tok ts p).symm.trans hk
  have h0 := nonempty_of hK (by decide)
  have hsz := hs.tok p
  have fe : (tokAt ts p).toList.isEmpty = false := by rw [empty_fact, decide_eq_false_iff_not]; omega
  have fq : (((tokAt ts p)[0].toNat : Int) == 39) = false := quote_fact hK h0
  have g1 := litF hK 24 (by decide) (by decide) [110, 117, 108, 108] (by decide) (by omega)
  have g2 := litF hK 30 (by decide) (by decide) [110, 111, 119] (by decide) (by omega)
  have g3 := litF hK 26 (by decide) (by decide) [99, 111, 117, 110, 116] (by decide) (by omega)
  have g4 := litF hK 27 (by decide) (by decide) [115, 117, 109] (by decide) (by omega)
  have g5 := litF hK 28 (by decide) (by decide) [109, 105, 110] (by decide) (by omega)
  have g6 := litF hK 29 (by decide) (by decide) [109, 97, 120] (by decide) (by omega)
  have g7 := litT hK (by decide) (by decide) [40] (by decide)
  have hN := hide (fun w => number_kind hK hsz w)
  have IH := hide ih
  clear hk ih
  go_enter Tryz.func325, Tryz.ntmps325
  go_wp2_with fail
  refine (deep_any b v p false deep d _ h).mono ?_
  rintro e w1 ⟨rfl, ha1⟩
  have hr1 := ha1.row hr
  go_wp2_with fail
  refine (look_any b v ts p false _ _ ha1.1 hr1 (by omega) (by omega)).mono ?_
  rintro e w2 ⟨rfl, ha2⟩
  obtain ⟨c0, c1, c2, c3⟩ := ha2.1.cells
  have hf1 := ha2.1.free 1
  have hr2 := ha2.row hr1
  have HA : After w b v (p + 1 : Nat) false (max deep d) (w2.setCell ⟨b, 1, none⟩ (.int .i64 ((p : Int) + 1))) := ⟨ha2.1.set1 _, (ha1.2.trans ha2.2).trans (grownBy_set _ _ _ _)⟩
  generalize tokAt ts p = s at *
  go_wp2_with (go_at_call 232; refine (hN.out _).mono ?_; rintro e w3 ⟨n, rfl, rfl⟩)
  clear c0 c1 c2 c3 hf1 g1 g2 g3 g4 g5 g6 g7 fq fe
  refine (IH.out b v ts (p + 1) _ (d + 1) _ HA.1 (HA.row hr) (by omega) hs (by omega) (by omega) (by omega) (by rw [Kds_len]; omega)).mono ?_
  rintro e w4 ⟨⟨x4, rfl⟩, ho4⟩
  generalize hr4 : R f 0 (Kds ts (p + 1)) (d + 1) = r4 at ho4
  have HR4 := hide hr4
  clear hr4
  match r4, ho4 with
  | none, ⟨p4, d4, h04, h14, ha4⟩ =>
    have hp4 : p4 ≤ (ts.length : Int) + 4 * f + 4 := by rw [← hfar0.out]; exact h14
    have HB := HA.trans ha4
    have hrB := HB.row hr
    have hres : Hid (res = none) := hide (by rw [← HR.out, HR4.out]; rfl)
    go_wp2_with fail
    refine (look_any b v ts p4 true _ _ ha4.1 hrB h04 (by omega)).mono ?_
    rintro e w5 ⟨rfl, ha5⟩
    obtain ⟨c0, c1, c2, c3⟩ := ha5.1.cells
    have hf1 := ha5.1.free 1
    have hf2 := ha5.1.free 2
    go_wp2_with fail
    · have HS6 : After w b v (p4 + 1) true d4 (w5.setCell ⟨b, 1, none⟩ (.int .i64 (p4 + 1))) := ⟨ha5.1.set1 _, (HB.trans ha5).2.trans (grownBy_set _ _ _ _)⟩
      refine (expr_bad b v ts (p4 + 1) _ (d + 1) _ HS6.1 (HS6.row hr) (by omega) hs).mono ?_
      rintro e w6 ⟨⟨x6, rfl⟩, ha6⟩
      go_wp2_with fail
      refine (must_bad b v ts (p4 + 1) _ _ _ ha6.1 (ha6.row (HS6.row hr)) (by omega) (by omega) (by omega)).mono ?_
      rintro e w7 ⟨rfl, ha7⟩
      go_wp2_with fail
      go_ret
      rw [hres.out]
      exact ⟨⟨_, rfl⟩, _, _, by omega, by rw [hfar.out]; omega, (((HS6.trans ha6).trans ha7).alloc _).alloc _⟩
    · have HS6 : After w b v (p4 + 1) true d4 (w5.setCell ⟨b, 1, none⟩ (.int .i64 (p4 + 1))) := ⟨ha5.1.set1 _, (HB.trans ha5).2.trans (grownBy_set _ _ _ _)⟩
      refine (expr_bad b v ts (p4 + 1) _ (d + 1) _ HS6.1 (HS6.row hr) (by omega) hs).mono ?_
      rintro e w6 ⟨⟨x6, rfl⟩, ha6⟩
      go_wp2_with fail
      refine (must_bad b v ts (p4 + 1) _ _ _ ha6.1 (ha6.row (HS6.row hr)) (by omega) (by omega) (by omega)).mono ?_
      rintro e w7 ⟨rfl, ha7⟩
      go_wp2_with fail
      go_ret
      rw [hres.out]
      exact ⟨⟨_, rfl⟩, _, _, by omega, by rw [hfar.out]; omega, (((HS6.trans ha6).trans ha7).alloc _).alloc _⟩
    · have HS6 : After w b v (p4 + 1) true d4 (w5.setCell ⟨b, 1, none⟩ (.int .i64 (p4 + 1))) := ⟨ha5.1.set1 _, (HB.trans ha5).2.trans (grownBy_set _ _ _ _)⟩
      refine (expr_bad b v ts (p4 + 1) _ (d + 1) _ HS6.1 (HS6.row hr) (by omega) hs).mono ?_
      rintro e w6 ⟨⟨x6, rfl⟩, ha6⟩
      go_wp2_with fail
      refine (must_bad b v ts (p4 + 1) _ _ _ ha6.1 (ha6.row (HS6.row hr)) (by omega) (by omega) (by omega)).mono ?_
      rintro e w7 ⟨rfl, ha7⟩
      go_wp2_with fail
      go_ret
      rw [hres.out]
      exact ⟨⟨_, rfl⟩, _, _, by omega, by rw [hfar.out]; omega, (((HS6.trans ha6).trans ha7).alloc _).alloc _⟩
    · have HS6 : After w b v (p4 + 1) true d4 ((w5.setCell ⟨b, 2, none⟩ (.bool true)).setCell ⟨b, 1, none⟩ (.int .i64 (p4 + 1))) := ⟨(ha5.1.set2 _).set1 _, ((HB.trans ha5).2.trans (grownBy_set _ _ _ _)).trans (grownBy_set _ _ _ _)⟩
      refine (expr_bad b v ts (p4 + 1) _ (d + 1) _ HS6.1 (HS6.row hr) (by omega) hs).mono ?_
      rintro e w6 ⟨⟨x6, rfl⟩, ha6⟩
      go_wp2_with fail
      refine (must_bad b v ts (p4 + 1) _ _ _ ha6.1 (ha6.row (HS6.row hr)) (by omega) (by omega) (by omega)).mono ?_
      rintro e w7 ⟨rfl, ha7⟩
      go_wp2_with fail
      go_ret
      rw [hres.out]
      exact ⟨⟨_, rfl⟩, _, _, by omega, by rw [hfar.out]; omega, (((HS6.trans ha6).trans ha7).alloc _).alloc _⟩
  | some (ks4, m4), ⟨p4, hk4, hge4, hp4, ha4⟩ =>
    subst hk4
    have HB := HA.trans ha4
    have hrB := HB.row hr
    go_wp2_with fail
    refine (look_any b v ts p4 false _ _ ha4.1 hrB (by omega) (by omega)).mono ?_
    rintro e w5 ⟨rfl, ha5⟩
    obtain ⟨c0, c1, c2, c3⟩ := ha5.1.cells
    have hf1 := ha5.1.free 1
    have hf2 := ha5.1.free 2
    obtain ⟨k4, hk4⟩ : ∃ k, kAt ts p4 = k := ⟨_, rfl⟩
    have hK4 : KindIs (tokAt ts p4) k4 := (kAt_tok ts p4).symm.trans hk4
    have HK4 := hide hk4
    by_cases hop : k4 = 11 ∨ k4 = 12 ∨ k4 = 13
    · have hlt4 : p4 < ts.length := kAt_lt (by omega)
      have HR5 : Hid (res = (R f 0 (Kds ts (p4 + 1)) (d + 1)).bind fun y => (must 5 y.1).bind fun k3 => some (k3, max d (max m4 y.2))) := hide (by
        rw [← HR.out, HR4.out, Option.bind_some, if_pos (by rw [show (Kds ts p4).headD 0 = k4 from hk4]; exact hop), Kds_tail])
      have HS6 : After w b v (p4 + 1 : Nat) false (max (max deep d) m4) (w5.setCell ⟨b, 1, none⟩ (.int .i64 ((p4 : Int) + 1))) := ⟨ha5.1.set1 _, (HB.trans ha5).2.trans (grownBy_set _ _ _ _)⟩
      clear hk4
      generalize tokAt ts p4 = s4 at *
      rcases hop with rfl | rfl | rfl
      · have g1 := litT hK4 (by decide) (by decide) [43] (by decide)
        go_wp2_with fail
        refine (IH.out b v ts (p4 + 1) _ (d + 1) _ HS6.1 (HS6.row hr) (by omega) hs (by omega) (by omega) (by omega) (by rw [Kds_len]; omega)).mono ?_
        rintro e w6 ⟨⟨x6, rfl⟩, ho6⟩
        generalize hr6 : R f 0 (Kds ts (p4 + 1)) (d + 1) = r6 at ho6
        have HR6 := hide hr6
        clear hr6
        match r6, ho6 with
        | none, ⟨p6, d6, h06, h16, ha6⟩ =>
          have hp6 : p6 ≤ (ts.length : Int) + 4 * f + 4 := by rw [← hfar0.out]; exact h16
          have hres : Hid (res = none) := hide (by rw [HR5.out, HR6.out]; rfl)
          go_wp2_with fail
          refine (must_bad b v ts p6 _ _ _ ha6.1 (ha6.row (HS6.row hr)) h06 (by omega) (by omega)).mono ?_
          rintro e w7 ⟨rfl, ha7⟩
          go_wp2_with fail
          go_ret
          rw [hres.out]
          exact ⟨⟨_, rfl⟩, _, _, h06, by rw [hfar.out]; omega, (((HS6.trans ha6).trans ha7).alloc _).alloc _⟩
        | some (ks6, m6), ⟨p6, hk6, hge6, hp6, ha6⟩ =>
          subst hk6
          go_wp2_with fail
          refine (must_any b v ts p6 5 _ _ _ (by decide) (by decide) (by decide) ha6.1 (ha6.row (HS6.row hr)) hp6 hs).mono ?_
          rintro e w7 ⟨rfl, ⟨k7, hp7, ha7⟩ | ⟨k7, ha7⟩⟩
          · have hres : Hid (res = some (Kds ts (p6 + 1), max d (max m4 m6))) := hide (by rw [HR5.out, HR6.out, Option.bind_some, must_Kds ts p6 5 (by decide), if_pos k7]; rfl)
            clear k7
            go_wp2_with fail
            go_ret
            rw [hres.out]
            refine ⟨⟨_, rfl⟩, p6 + 1, rfl, by omega, hp7, ?_⟩
            rw [show max deep (max d (max m4 m6)) = max (max (max deep d) m4) m6 by omega]
            exact (((HS6.trans ha6).trans ha7).alloc _).alloc _
          · have hres : Hid (res = none) := hide (by rw [HR5.out, HR6.out, Option.bind_some, must_Kds ts p6 5 (by decide), if_neg k7]; rfl)
            clear k7
            go_wp2_with fail
            go_ret
            rw [hres.out]
            exact ⟨⟨_, rfl⟩, _, _, by omega, by rw [hfar.out]; omega, (((HS6.trans ha6).trans ha7).alloc _).alloc _⟩
      · have g1 := litF hK4 11 (by decide) (by decide) [43] (by decide) (by decide)
        have g2 := litT hK4 (by decide) (by decide) [45] (by decide)
        go_wp2_with fail
        refine (IH.out b v ts (p4 + 1) _ (d + 1) _ HS6.1 (HS6.row hr) (by omega) hs (by omega) (by omega) (by omega) (by rw [Kds_len]; omega)).mono ?_
        rintro e w6 ⟨⟨x6, rfl⟩, ho6⟩
        generalize hr6 : R f 0 (Kds ts (p4 + 1)) (d + 1) = r6 at ho6
        have HR6 := hide hr6
        clear hr6
        match r6, ho6 with
        | none, ⟨p6, d6, h06, h16, ha6⟩ =>
          have hp6 : p6 ≤ (ts.length : Int) + 4 * f + 4 := by rw [← hfar0.out]; exact h16
          have hres : Hid (res = none) := hide (by rw [HR5.out, HR6.out]; rfl)
          go_wp2_with fail
          refine (must_bad b v ts p6 _ _ _ ha6.1 (ha6.row (HS6.row hr)) h06 (by omega) (by omega)).mono ?_
          rintro e w7 ⟨rfl, ha7⟩
          go_wp2_with fail
          go_ret
          rw [hres.out]
          exact ⟨⟨_, rfl⟩, _, _, h06, by rw [hfar.out]; omega, (((HS6.trans ha6).trans ha7).alloc _).alloc _⟩
        | some (ks6, m6), ⟨p6, hk6, hge6, hp6, ha6⟩ =>
          subst hk6
          go_wp2_with fail
          refine (must_any b v ts p6 5 _ _ _ (by decide) (by decide) (by decide) ha6.1 (ha6.row (HS6.row hr)) hp6 hs).mono ?_
          rintro e w7 ⟨rfl, ⟨k7, hp7, ha7⟩ | ⟨k7, ha7⟩⟩
          · have hres : Hid (res = some (Kds ts (p6 + 1), max d (max m4 m6))) := hide (by rw [HR5.out, HR6.out, Option.bind_some, must_Kds ts p6 5 (by decide), if_pos k7]; rfl)
            clear k7
            go_wp2_with fail
            go_ret
            rw [hres.out]
            refine ⟨⟨_, rfl⟩, p6 + 1, rfl, by omega, hp7, ?_⟩
            rw [show max deep (max d (max m4 m6)) = max (max (max deep d) m4) m6 by omega]
            exact (((HS6.trans ha6).trans ha7).alloc _).alloc _
          · have hres : Hid (res = none) := hide (by rw [HR5.out, HR6.out, Option.bind_some, must_Kds ts p6 5 (by decide), if_neg k7]; rfl)
            clear k7
            go_wp2_with fail
            go_ret
            rw [hres.out]
            exact ⟨⟨_, rfl⟩, _, _, by omega, by rw [hfar.out]; omega, (((HS6.trans ha6).trans ha7).alloc _).alloc _⟩
      · have g1 := litF hK4 11 (by decide) (by decide) [43] (by decide) (by decide)
        have g2 := litF hK4 12 (by decide) (by decide) [45] (by decide) (by decide)
        have g3 := litT hK4 (by decide) (by decide) [42] (by decide)
        go_wp2_with fail
        refine (IH.out b v ts (p4 + 1) _ (d + 1) _ HS6.1 (HS6.row hr) (by omega) hs (by omega) (by omega) (by omega) (by rw [Kds_len]; omega)).mono ?_
        rintro e w6 ⟨⟨x6, rfl⟩, ho6⟩
        generalize hr6 : R f 0 (Kds ts (p4 + 1)) (d + 1) = r6 at ho6
        have HR6 := hide hr6
        clear hr6
        match r6, ho6 with
        | none, ⟨p6, d6, h06, h16, ha6⟩ =>
          have hp6 : p6 ≤ (ts.length : Int) + 4 * f + 4 := by rw [← hfar0.out]; exact h16
          have hres : Hid (res = none) := hide (by rw [HR5.out, HR6.out]; rfl)
          go_wp2_with fail
          refine (must_bad b v ts p6 _ _ _ ha6.1 (ha6.row (HS6.row hr)) h06 (by omega) (by omega)).mono ?_
          rintro e w7 ⟨rfl, ha7⟩
          go_wp2_with fail
          go_ret
          rw [hres.out]
          exact ⟨⟨_, rfl⟩, _, _, h06, by rw [hfar.out]; omega, (((HS6.trans ha6).trans ha7).alloc _).alloc _⟩
        | some (ks6, m6), ⟨p6, hk6, hge6, hp6, ha6⟩ =>
          subst hk6
          go_wp2_with fail
          refine (must_any b v ts p6 5 _ _ _ (by decide) (by decide) (by decide) ha6.1 (ha6.row (HS6.row hr)) hp6 hs).mono ?_
          rintro e w7 ⟨rfl, ⟨k7, hp7, ha7⟩ | ⟨k7, ha7⟩⟩
          · have hres : Hid (res = some (Kds ts (p6 + 1), max d (max m4 m6))) := hide (by rw [HR5.out, HR6.out, Option.bind_some, must_Kds ts p6 5 (by decide), if_pos k7]; rfl)
            clear k7
            go_wp2_with fail
            go_ret
            rw [hres.out]
            refine ⟨⟨_, rfl⟩, p6 + 1, rfl, by omega, hp7, ?_⟩
            rw [show max deep (max d (max m4 m6)) = max (max (max deep d) m4) m6 by omega]
            exact (((HS6.trans ha6).trans ha7).alloc _).alloc _
          · have hres : Hid (res = none) := hide (by rw [HR5.out, HR6.out, Option.bind_some, must_Kds ts p6 5 (by decide), if_neg k7]; rfl)
            clear k7
            go_wp2_with fail
            go_ret
            rw [hres.out]
            exact ⟨⟨_, rfl⟩, _, _, by omega, by rw [hfar.out]; omega, (((HS6.trans ha6).trans ha7).alloc _).alloc _⟩
    · have hres : Hid (res = none) := hide (by
        rw [← HR.out, HR4.out, Option.bind_some, if_neg (by rw [show (Kds ts p4).headD 0 = k4 from hk4]; exact hop)])
      have g1 := litF hK4 11 (by decide) (by decide) [43] (by decide) (by omega)
      have g2 := litF hK4 12 (by decide) (by decide) [45] (by decide) (by omega)
      have g3 := litF hK4 13 (by decide) (by decide) [42] (by decide) (by omega)
      clear hk4
      generalize tokAt ts p4 = s4 at *
      go_wp2_with fail
      have HS6 : After w b v ((p4 : Int) + 1) true (max (max deep d) m4) ((w5.setCell ⟨b, 2, none⟩ (.bool true)).setCell ⟨b, 1, none⟩ (.int .i64 ((p4 : Int) + 1))) := ⟨(ha5.1.set2 _).set1 _, ((HB.trans ha5).2.trans (grownBy_set _ _ _ _)).trans (grownBy_set _ _ _ _)⟩
      refine (expr_bad b v ts ((p4 : Int) + 1) _ (d + 1) _ HS6.1 (HS6.row hr) (by omega) hs).mono ?_
      rintro e w6 ⟨⟨x6, rfl⟩, ha6⟩
      go_wp2_with fail
      refine (must_bad b v ts ((p4 : Int) + 1) _ _ _ ha6.1 (ha6.row (HS6.row hr)) (by omega) (by omega) (by omega)).mono ?_
      rintro e w7 ⟨rfl, ha7⟩
      go_wp2_with fail
      go_ret
      rw [hres.out]
      exact ⟨⟨_, rfl⟩, _, _, by omega, by rw [hfar.out]; omega, (((HS6.trans ha6).trans ha7).alloc _).alloc _⟩
end Go.Proofs.YtbkeflgafjnefaaGreatDoor
