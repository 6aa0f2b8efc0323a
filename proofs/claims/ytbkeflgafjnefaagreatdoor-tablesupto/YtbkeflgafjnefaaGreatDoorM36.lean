/- Towards the law of tables: F3. -/
import Derived.Test.YtbkeflgafjnefaaGreatDoorM21
import Derived.Test.YtbkeflgafjnefaaGreatDoorM05
namespace Go.Proofs.YtbkeflgafjnefaaGreatDoor
open Go.RowKit
open Trib
/-- What a reading comes to. -/
def bodyQ (ks : List Nat) : Nat := match R (8 * ks.length + 8) 2 ks 1 with | some ([], m) => if m > 6 then 2 else 0 | _ => 1
def resT : Option (List ByteArray × Tr) → Nat
  | some ([], t) => if 6 < dep t then 2 else 0
  | _ => 1
theorem body_same (l : List ByteArray) : bodyQ (l.map kd) = resT (qA l) := by
  refine Eq.trans (whole_alike (8 * (l.map kd).length + 8) (l.map kd)) ?_
  rw [CT_er, List.length_map]
  unfold qA
  cases CT (8 * l.length + 8) 2 l with
  | none => rfl
  | some x =>
    obtain ⟨r, t⟩ := x
    cases r with
    | nil => rfl
    | cons a r => rfl
theorem readP_other (ks : List Nat) (h1 : ks.headD 0 ≠ 32) (h2 : ks.headD 0 = 31 → ks.tail.headD 0 ≠ 2) : readP ks = bodyQ ks := by
  unfold readP
  split
  · exact absurd rfl h1
  · exact absurd rfl (h2 rfl)
  · rfl
theorem body_head (ks : List Nat) (h : ks.headD 0 ≠ 14) : bodyQ ks = 1 := by
  have : R (8 * ks.length + 8) 2 ks 1 = none := by
    show R (8 * ks.length + 7 + 1) 2 ks 1 = none
    rw [R]
    cases ks with
    | nil => rfl
    | cons k r =>
      have h' : k ≠ 14 := h
      simp [must, h']
  unfold bodyQ
  rw [this]
theorem readP_st (ts : List ByteArray) : readP (ts.map kd) = resT (stT ts) := by
  unfold stT
  by_cases h31 : hk ts = 31
  · rw [if_pos h31]
    match ts, h31 with
    | t :: r, h31 =>
      have e : kd t = 31 := h31
      match r with
      | [] =>
        rw [readP_other _ (by show kd t ≠ 32; omega) (fun _ => by show (0 : Nat) ≠ 2; decide), body_head _ (by show kd t ≠ 14; omega)]; rfl
      | u :: r =>
        by_cases h2 : kd u = 2
        · have e2 : takeT 2 (u :: r) = some (u, r) := by rw [takeT, if_pos h2]
          show readP (kd t :: kd u :: r.map kd) = resT ((takeT 2 (u :: r)).bind fun a => qA a.2)
          rw [e, h2, e2]
          exact body_same r
        · have e2 : takeT 2 (u :: r) = none := by rw [takeT, if_neg h2]
          rw [readP_other _ (by show kd t ≠ 32; omega) (fun _ => by show kd u ≠ 2; exact h2), body_head _ (by show kd t ≠ 14; omega)]
          show _ = resT ((takeT 2 (u :: r)).bind fun a => qA a.2)
          rw [e2]; rfl
  · rw [if_neg h31]
    by_cases h32 : hk ts = 32
    · rw [if_pos h32]
      match ts, h32 with
      | t :: r, h32 =>
        have e : kd t = 32 := h32
        show readP (kd t :: r.map kd) = resT (qA r)
        rw [e]
        exact body_same r
    · rw [if_neg h32, readP_other _ (by rw [hk_map]; exact h32) (fun h => absurd (by rw [← hk_map]; exact h) h31)]
      exact body_same ts
theorem readErr_tokens {s : ByteArray} {ts : List ByteArray} (h4 : s.size ≤ 400) (h : tokensOf s = some (ts.map (·.data.toList))) : readErr s = resT (stT ts) := by
  rw [← readP_st]
  unfold readErr
  rw [if_neg (by omega), h]
  show readP ((ts.map (·.data.toList)).map kindOf) = _
  rw [List.map_map]; rfl
/-- What the program's Print answers, in the words of the document's. -/
theorem tprint_says {s : ByteArray} {w w' : World} {e : Ending} (h : TPrintPost s w e w') : Below w.heap.size w w' ∧
    (readErr s ≠ 0 ∧ e = .returned (.tuple #[.string ⟨#[]⟩, .int .i64 (readErr s : Int)]) ∨
     readErr s = 0 ∧ ∃ ts : List ByteArray, tokensOf s = some (ts.map (·.data.toList)) ∧ Kinded ts ∧ e = .returned (.tuple #[.string ⟨(writtenP (ts.map (·.data.toList))).1.toArray⟩, .int .i64 0])) := by
  obtain ⟨h, hb⟩ := h
  refine ⟨hb, ?_⟩
  rcases h with ⟨ts, t, h4, hts, hkd, hst, hc⟩ | ⟨hno, he⟩
  · have hr := readErr_tokens h4 hts
    rw [hst] at hr
    rcases hc with ⟨h6, he⟩ | ⟨h6, he⟩
    · have hr2 : readErr s = 2 := by rw [hr]; show (if 6 < dep t then 2 else 0) = 2; rw [if_pos h6]
      exact Or.inl ⟨by rw [hr2]; decide, by rw [hr2]; exact he⟩
    · have hr2 : readErr s = 0 := by rw [hr]; show (if 6 < dep t then 2 else 0) = 0; rw [if_neg (by omega)]
      exact Or.inr ⟨hr2, ts, hts, hkd, he⟩
  · have hr2 : readErr s = 1 := by
      by_cases h4 : 400 < s.size
      · unfold readErr; rw [if_pos h4]
      · rcases hno with h | h | ⟨ts, hts, hst⟩
        · exact absurd h h4
        · unfold readErr; rw [if_neg h4, h]
        · rw [readErr_tokens (by omega) hts]
          cases hs : stT ts with
          | none => rfl
          | some x =>
            obtain ⟨r, t⟩ := x
            cases r with
            | nil => exact absurd hs (hst t)
            | cons a r => rfl
    exact Or.inl ⟨by rw [hr2]; decide, by rw [hr2]; exact he⟩
end Go.Proofs.YtbkeflgafjnefaaGreatDoor
