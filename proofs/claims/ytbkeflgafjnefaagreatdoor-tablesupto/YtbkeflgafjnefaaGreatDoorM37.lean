/- Towards the law of tables: WriteParts. -/
import Derived.Test.YtbkeflgafjnefaaGreatDoorM35
import Derived.Test.YtbkeflgafjnefaaGreatDoorM36
import Derived.Test.YtbkeflgafjnefaaGreatDoorM17
namespace Go.Proofs.YtbkeflgafjnefaaGreatDoor
open Go.RowKit
open Trib
theorem blank_sep (l r : Nat) (h : Trib.isAgg l = true → r = 4) : blankK l r = sepB (decide (l = 0)) l r := by
  unfold blankK sepB callB
  by_cases h0 : l = 0 ∨ l = 4 ∨ l = 7
  · rw [if_pos h0]
    rcases h0 with rfl | rfl | rfl <;> simp
  · rw [if_neg h0]
    have e0 : decide (l = 0) = false := decide_eq_false (by omega)
    have e4 : (l == 4) = false := by simp; omega
    have e7 : (l == 7) = false := by simp; omega
    rw [e0, e4, e7]
    by_cases ha : 26 ≤ l ∧ l ≤ 29
    · rw [if_pos ha]
      have hr := h (by unfold Trib.isAgg; rw [decide_eq_true ha.1, decide_eq_true ha.2]; rfl)
      subst hr
      rw [decide_eq_true ha.1, decide_eq_true ha.2]; rfl
    · rw [if_neg ha]
      have e : (decide (26 ≤ l) && decide (l ≤ 29)) = false := by
        rw [← Bool.not_eq_true]; simpa using ha
      rw [Bool.and_assoc (r == 4), e, Bool.and_false]; simp
theorem written_same : ∀ (l : List (List UInt8)) (o : List UInt8) (k : Nat), aggB (k :: l.map kindOf) = true → (∀ t ∈ l, kindOf t ≠ 0) →
    (l.foldl wstep (o, k, decide (k = 0))).1 = (l.foldl wstepP (o, k)).1 := by
  intro l
  induction l with
  | nil => intro o k _ _; rfl
  | cons t r ih =>
    intro o k ha hn
    have ht := hn t List.mem_cons_self
    rw [List.map_cons, aggB, Bool.and_eq_true] at ha
    have hb := blank_sep k (kindOf t) (fun hk => by
      have := ha.1
      rw [hk] at this
      simpa using this)
    have e : wstep (o, k, decide (k = 0)) t = (o ++ (if sepB (decide (k = 0)) k (kindOf t) then [32] else []) ++ t, kindOf t, decide (kindOf t = 0)) := by
      rw [wstep, decide_eq_false ht]
    rw [List.foldl_cons, List.foldl_cons, e, wstepP, hb]
    exact ih _ _ ha.2 (fun t' h' => hn t' (List.mem_cons_of_mem _ h'))
/-- The program's blanks are the document's. -/
theorem written_eq (l : List (List UInt8)) (ha : aggB (l.map kindOf) = true) (hn : ∀ t ∈ l, kindOf t ≠ 0) : (written l).1 = (writtenP l).1 :=
  written_same l [] 0 (by rw [aggB, ha]; rfl) hn
/-- The tokens of a text that is read as a query or a policy have their brackets. -/
theorem readP_agg {ks : List Nat} (h : readP ks ≠ 1) : aggB ks = true := by
  have body : ∀ r : List Nat, bodyQ r ≠ 1 → aggB r = true := by
    intro r h
    have e : bodyQ r = _ := whole_alike (8 * r.length + 8) r
    rw [e] at h
    split at h
    · rename_i hC; exact C_agg hC
    · exact absurd rfl h
  unfold readP at h
  split at h
  · rename_i r
    rw [aggB, body r h]; rfl
  · rename_i r
    rw [aggB, aggB, body r h]; rfl
  · exact body _ h
/-- What Print answers for a text. -/
def printB (s : ByteArray) : ByteArray := if readErr s = 0 then ⟨(written ((tokensOf s).getD [])).1.toArray⟩ else ⟨#[]⟩
def printV (s : ByteArray) : Value := .tuple #[.string (printB s), .int .i64 (readErr s : Int)]
theorem print_ref {s : ByteArray} {w w' : World} {e : Ending} (h : PrintPost s w e w') : e = .returned (printV s) ∧ Below w.heap.size w w' := by
  obtain ⟨h, hb⟩ := h
  refine ⟨?_, hb⟩
  unfold printV printB
  rcases h with ⟨h0, he⟩ | ⟨h0, o, l, hl, ho, he⟩
  · rw [if_neg h0]; exact he
  · rw [if_pos h0, hl, h0, he]
    have : o = ⟨(written l).1.toArray⟩ := by
      cases o with
      | mk d => simp only at ho; rw [← ho]
    rw [this]; rfl
theorem print_prog {s : ByteArray} {w w' : World} {e : Ending} (h : TPrintPost s w e w') : e = .returned (printV s) ∧ Below w.heap.size w w' := by
  obtain ⟨hb, h⟩ := tprint_says h
  refine ⟨?_, hb⟩
  unfold printV printB
  rcases h with ⟨h0, he⟩ | ⟨h0, ts, hts, hkd, he⟩
  · rw [if_neg h0]; exact he
  · have hr : readP ((ts.map (·.data.toList)).map kindOf) = 0 := by
      have h9 := h0
      unfold readErr at h9
      split at h9
      · cases h9
      · rw [hts] at h9; exact h9
    have hag := readP_agg (ks := (ts.map (·.data.toList)).map kindOf) (by rw [hr]; decide)
    have hk : ∀ t ∈ ts.map (·.data.toList), kindOf t ≠ 0 := by
      intro t ht
      obtain ⟨b, hb', rfl⟩ := List.mem_map.1 ht
      exact hkd b hb'
    rw [if_pos h0, hts, h0, he, ← written_eq _ hag hk]; rfl
end Go.Proofs.YtbkeflgafjnefaaGreatDoor
