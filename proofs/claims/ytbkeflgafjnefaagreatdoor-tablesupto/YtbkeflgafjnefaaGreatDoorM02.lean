/- Towards the law of tables: RefLeaf, R2, R3, R4, P1. -/
import Derived.Test.YtbkeflgafjnefaaGreatDoorM01
import Derived.Test.YtbkeflgafjnefaaGreatDoorProg
import Derived.WalkKit
import Derived.WalkSpells
import Derived.WalkLawsBesides
namespace Go.Proofs.YtbkeflgafjnefaaGreatDoor
open Go.RowKit
open Trib (isLet isDig isKw lettersB nameB wordB digVal digsOk numOk signedB)

theorem ret_bool {a b : Bool} (h : a = b) : Ending.returned (.bool a) = .returned (.bool b) := by rw [h]

set_option maxHeartbeats 400000 in
theorem letter_any (c : UInt8) (w : World) :
    Calls Tryz.prog 235 #[.int .u8 (c.toNat : Int)] w fun e w' => e = .returned (.bool (isLet c)) ∧ w = w' := by
  go_enter Tryz.func235, Tryz.ntmps235
  go_wp2
  all_goals go_ret
  · rename_i h; exact ⟨ret_bool (by rw [isLet, decide_eq_true (show 97 ≤ c.toNat by omega), Bool.true_and]; exact decide_eq_decide.2 (by omega)), rfl⟩
  · rename_i h; exact ⟨ret_bool (by rw [isLet, decide_eq_false (show ¬ 97 ≤ c.toNat by omega), Bool.false_and]), rfl⟩

set_option maxHeartbeats 400000 in
theorem digit_any (c : UInt8) (w : World) :
    Calls Tryz.prog 236 #[.int .u8 (c.toNat : Int)] w fun e w' => e = .returned (.bool (isDig c)) ∧ w = w' := by
  go_enter Tryz.func236, Tryz.ntmps236
  go_wp2
  all_goals go_ret
  · rename_i h; exact ⟨ret_bool (by rw [isDig, decide_eq_true (show 48 ≤ c.toNat by omega), Bool.true_and]; exact decide_eq_decide.2 (by omega)), rfl⟩
  · rename_i h; exact ⟨ret_bool (by rw [isDig, decide_eq_false (show ¬ 48 ≤ c.toNat by omega), Bool.false_and]), rfl⟩

set_option maxHeartbeats 1000000 in
theorem keyword_any (s : ByteArray) (w : World) :
    Calls Tryz.prog 238 #[.string s] w fun e w' => e = .returned (.bool (isKw s.toList)) ∧ w = w' := by
  go_enter Tryz.func238, Tryz.ntmps238
  go_wp2
  all_goals go_ret
  all_goals exact ⟨ret_bool (by simp_all [isKw, Trib.kws]), rfl⟩

end Go.Proofs.YtbkeflgafjnefaaGreatDoor
namespace Go.Proofs.YtbkeflgafjnefaaGreatDoor
open Go.RowKit
open Trib (isLet isDig isKw lettersB nameB wordB digVal digsOk numOk signedB)

theorem len_eq (s : ByteArray) : s.data.toList.length = s.size := by rw [Array.length_toList]; rfl
theorem take_snoc (s : ByteArray) (k : Nat) (h : k < s.size) : s.data.toList.take (k + 1) = s.data.toList.take k ++ [s[k]] := by
  rw [List.take_succ_eq_append_getElem (by rw [len_eq]; exact h)]; rfl
theorem pos_dec (s : ByteArray) : decide (0 < s.size) = !s.data.toList.isEmpty := by
  rw [← len_eq]; cases s.data.toList <;> simp

/-- All bytes up to k are so; the k-th is not: not all are. -/
theorem all_false (p : UInt8 → Bool) (s : ByteArray) (k : Nat) (h : k < s.size) (hp : p s[k] = false) : s.data.toList.all p = false := by
  rw [List.all_eq_false]
  exact ⟨s[k], by rw [show s[k] = s.data.toList[k]'(by rw [len_eq]; exact h) from rfl]; exact List.getElem_mem _, by simp [hp]⟩
theorem all_step (p : UInt8 → Bool) (s : ByteArray) (k : Nat) (h : k < s.size) (hp : p s[k] = true) (ha : (s.data.toList.take k).all p = true) : (s.data.toList.take (k + 1)).all p = true := by
  rw [take_snoc s k h, List.all_append, ha]; simp [hp]
theorem all_end (p : UInt8 → Bool) (s : ByteArray) (k : Nat) (h : ¬ k < s.size) (ha : (s.data.toList.take k).all p = true) : s.data.toList.all p = true := by
  rwa [List.take_of_length_le (by rw [len_eq]; omega)] at ha

set_option maxHeartbeats 400000 in
theorem letters_any (s : ByteArray) (w : World) (hs : s.size ≤ maxLen) :
    Calls Tryz.prog 240 #[.string s] w fun e w' => e = .returned (.bool (lettersB s.data.toList)) ∧ w = w' := by
  unfold maxLen at hs
  go_enter Tryz.func240, Tryz.ntmps240
  go_wp2_with fail
  go_loop [3] (fun i => ∃ k : Nat, k ≤ s.size ∧ i = .int .i64 k ∧ (s.data.toList.take k).all isLet = true) (fun i => s.size - (intOf i).toNat)
  case atStart => exact ⟨0, Nat.zero_le _, rfl, rfl⟩
  case round =>
    obtain ⟨k, hk, rfl, hall⟩ := hrel
    have HA : Hid ((s.data.toList.take k).all isLet = true) := hall
    clear hall
    by_cases hlt : k < s.size
    · cases hc : isLet s[k]
      · have HC : Hid (isLet s[k] = false) := hc
        clear hc
        go_wp2_with (go_at_call 235; refine (letter_any _ _).mono ?_; rintro e w' ⟨rfl, rfl⟩; rw [HC.out])
        go_ret
        exact ⟨ret_bool (by rw [lettersB, all_false isLet s k hlt HC.out]; rfl), rfl⟩
      · have HC : Hid (isLet s[k] = true) := hc
        clear hc
        go_wp2_with (go_at_call 235; refine (letter_any _ _).mono ?_; rintro e w' ⟨rfl, rfl⟩; rw [HC.out])
        go_round
        case rel => exact ⟨k + 1, by omega, by go_num, all_step isLet s k hlt HC.out HA.out⟩
        case measure => simp [intOf]; omega
    · go_wp2_with fail
      go_ret
      exact ⟨ret_bool (by rw [lettersB, all_end isLet s k hlt HA.out, pos_dec, Bool.true_and]), rfl⟩

set_option maxHeartbeats 400000 in
theorem Name_any (s : ByteArray) (w : World) (hs : s.size ≤ maxLen) :
    Calls Tryz.prog 165 #[.string s] w fun e w' => e = .returned (.bool (nameB s.data.toList)) ∧ w = w' := by
  unfold maxLen at hs
  have HE : Hid (s.toList = s.data.toList) := ByteArray.toList_eq s
  generalize ha : lettersB s.data.toList = a
  generalize hb : isKw s.data.toList = b
  have Ha : Hid (lettersB s.data.toList = a) := ha
  have Hb : Hid (isKw s.data.toList = b) := hb
  clear ha hb
  go_enter Tryz.func165, Tryz.ntmps165
  cases a <;> cases b
  all_goals
    go_wp2_with (first | (go_at_call 240; refine (letters_any _ _ (by unfold maxLen; exact hs)).mono ?_; rintro e w' ⟨rfl, rfl⟩; rw [Ha.out]) | (go_at_call 238; refine (keyword_any _ _).mono ?_; rintro e w' ⟨rfl, rfl⟩; rw [HE.out, Hb.out]))
    go_ret
    exact ⟨ret_bool (by rw [nameB, Ha.out, Hb.out, len_eq]; first | rfl | (simp; omega)), rfl⟩

set_option maxHeartbeats 400000 in
theorem word_any (s : ByteArray) (w : World) (hs : s.size ≤ maxLen) :
    Calls Tryz.prog 239 #[.string s] w fun e w' => e = .returned (.bool (wordB s.data.toList)) ∧ w = w' := by
  unfold maxLen at hs
  go_enter Tryz.func239, Tryz.ntmps239
  go_wp2_with fail
  go_loop [3] (fun i => ∃ k : Nat, k ≤ s.size ∧ i = .int .i64 k ∧ (s.data.toList.take k).all (fun c => isLet c || isDig c) = true) (fun i => s.size - (intOf i).toNat)
  case atStart => exact ⟨0, Nat.zero_le _, rfl, rfl⟩
  case round =>
    obtain ⟨k, hk, rfl, hall⟩ := hrel
    have HA : Hid ((s.data.toList.take k).all (fun c => isLet c || isDig c) = true) := hall
    clear hall
    by_cases hlt : k < s.size
    · generalize hc : isLet s[k] = lc
      generalize hd : isDig s[k] = ld
      have HC : Hid (isLet s[k] = lc) := hc
      have HD : Hid (isDig s[k] = ld) := hd
      clear hc hd
      cases lc <;> cases ld
      · go_wp2_with (first | (go_at_call 235; refine (letter_any _ _).mono ?_; rintro e w' ⟨rfl, rfl⟩; rw [HC.out]) | (go_at_call 236; refine (digit_any _ _).mono ?_; rintro e w' ⟨rfl, rfl⟩; rw [HD.out]))
        go_ret
        exact ⟨ret_bool (by rw [wordB, all_false _ s k hlt (by rw [HC.out, HD.out]; rfl)]; rfl), rfl⟩
      all_goals
        go_wp2_with (first | (go_at_call 235; refine (letter_any _ _).mono ?_; rintro e w' ⟨rfl, rfl⟩; rw [HC.out]) | (go_at_call 236; refine (digit_any _ _).mono ?_; rintro e w' ⟨rfl, rfl⟩; rw [HD.out]))
        go_round
        case rel => exact ⟨k + 1, by omega, by go_num, all_step _ s k hlt (by rw [HC.out, HD.out]; rfl) HA.out⟩
        case measure => simp [intOf]; omega
    · go_wp2_with fail
      go_ret
      exact ⟨ret_bool (by rw [wordB, all_end _ s k hlt HA.out, len_eq, Bool.true_and]; exact decide_eq_decide.2 (by omega)), rfl⟩

end Go.Proofs.YtbkeflgafjnefaaGreatDoor
namespace Go.Proofs.YtbkeflgafjnefaaGreatDoor
open Go.RowKit
open Trib (isLet isDig isKw lettersB nameB wordB digVal digsOk numFrom numRes numOk signedB)

theorem hide {p : Prop} (h : p) : Hid p := h
theorem ret_num {a b : Int × Bool} (h : a = b) : Ending.returned (.tuple #[.int .i64 a.1, .bool a.2]) = .returned (.tuple #[.int .i64 b.1, .bool b.2]) := by rw [h]
theorem head_some (s : ByteArray) (h : 0 < s.size) : s.data.toList.head? = some s[0] := by
  rw [List.head?_eq_getElem?, List.getElem?_eq_getElem (by rw [len_eq]; exact h)]; rfl
theorem digsOk_short (neg : Bool) (r : ByteArray) (h : r.size < 1) : digsOk neg r.data.toList = false := by
  rw [digsOk, len_eq, decide_eq_false (show ¬ 1 ≤ r.size by omega)]; rfl
theorem digsOk_long (neg : Bool) (r : ByteArray) (h : 13 < r.size) : digsOk neg r.data.toList = false := by
  rw [digsOk, len_eq, decide_eq_false (show ¬ r.size ≤ 13 by omega), Bool.and_false]; rfl
theorem digsOk_zero (neg : Bool) (r : ByteArray) (h : 0 < r.size) (h0 : (r[0].toNat : Int) = 48) (h1 : 1 < r.size ∨ neg = true) : digsOk neg r.data.toList = false := by
  have e : r[0] = 48 := by rw [← UInt8.toNat_inj]; simpa using (by omega : r[0].toNat = 48)
  rw [digsOk, head_some r h, e, len_eq]
  rcases h1 with h1 | h1
  · simp [h1]
  · simp [h1]
theorem digsOk_digit (neg : Bool) (r : ByteArray) (k : Nat) (h : k < r.size) (hd : isDig r[k] = false) : digsOk neg r.data.toList = false := by
  rw [digsOk, all_false _ r k h hd, Bool.and_false]
theorem digsOk_yes (neg : Bool) (r : ByteArray) (h1 : 1 ≤ r.size) (h2 : r.size ≤ 13) (h3 : (r[0]'h1).toNat = 48 → r.size ≤ 1 ∧ neg = false) (ha : r.data.toList.all isDig = true) : digsOk neg r.data.toList = true := by
  rw [digsOk, ha, head_some r h1, len_eq]
  by_cases e : r[0] = 48
  · obtain ⟨a, b⟩ := h3 (by rw [e]; rfl)
    subst b
    have : r.size = 1 := by omega
    simp [this]
  · simp [e, h1, h2]
theorem digVal_step (r : ByteArray) (k : Nat) (h : k < r.size) : digVal (r.data.toList.take (k + 1)) = 10 * digVal (r.data.toList.take k) + (r[k].toNat - 48) := by
  rw [take_snoc r k h, Trib.digVal_snoc]
theorem digVal_take_lt (r : ByteArray) (k : Nat) (hk : k ≤ 13) (ha : (r.data.toList.take k).all isDig = true) : digVal (r.data.toList.take k) < 10000000000000 := by
  have h := Trib.digVal_lt _ ha
  refine Nat.lt_of_lt_of_le h ?_
  exact Nat.le_trans (Nat.pow_le_pow_right (by omega) (Nat.le_trans (List.length_take_le _ _) hk)) (by decide)
theorem isDig_bd {c : UInt8} (h : isDig c = true) : 48 ≤ c.toNat ∧ c.toNat ≤ 57 := by simpa [isDig] using h

theorem ret_num2 {n m : Int} {a b : Bool} (h1 : n = m) (h2 : a = b) : Ending.returned (.tuple #[.int .i64 n, .bool a]) = .returned (.tuple #[.int .i64 m, .bool b]) := by rw [h1, h2]
/-- No 0 stands ahead of other digits, none behind a sign. -/
def zOk (neg : Bool) (r : ByteArray) : Prop := ∀ h : 0 < r.size, r[0].toNat = 48 → r.size ≤ 1 ∧ neg = false
theorem num_end {sg : Int} {neg : Bool} {r : ByteArray} {k : Nat} (hk : ¬ k < r.size) (h1 : 1 ≤ r.size) (h2 : r.size ≤ 13) (hz : zOk neg r) (ha : (r.data.toList.take k).all isDig = true) :
    numFrom sg neg r.data.toList = (sg * (digVal (r.data.toList.take k) : Int), decide ((digVal (r.data.toList.take k) : Int) ≤ 1000000000000)) := by
  have he : r.data.toList.take k = r.data.toList := List.take_of_length_le (by rw [len_eq]; omega)
  rw [numFrom, if_pos (digsOk_yes neg r h1 h2 (hz h1) (all_end _ r k hk ha)), he]
  exact Prod.ext rfl (decide_eq_decide.2 (by omega))
/-- The bytes of a string, under a name that the walk leaves alone. -/
def IsL (r : ByteArray) (L : List UInt8) : Prop := r.data.toList = L
theorem numFrom_no {sg : Int} {neg : Bool} {r : ByteArray} {L : List UInt8} (hL : IsL r L) (h : digsOk neg r.data.toList = false) : numFrom sg neg L = (0, false) := by
  cases hL; rw [numFrom, h]; rfl
theorem num_endL {sg : Int} {neg : Bool} {r : ByteArray} {L : List UInt8} (hL : IsL r L) {k : Nat} (hk : ¬ k < r.size) (h1 : 1 ≤ r.size) (h2 : r.size ≤ 13) (hz : zOk neg r) (ha : (L.take k).all isDig = true) :
    numFrom sg neg L = (sg * (digVal (L.take k) : Int), decide ((digVal (L.take k) : Int) ≤ 1000000000000)) := by
  cases hL; exact num_end hk h1 h2 hz ha
theorem all_stepL (p : UInt8 → Bool) {r : ByteArray} {L : List UInt8} (hL : IsL r L) (k : Nat) (h : k < r.size) (hp : p r[k] = true) (ha : (L.take k).all p = true) : (L.take (k + 1)).all p = true := by
  cases hL; exact all_step p r k h hp ha
theorem digVal_stepL {r : ByteArray} {L : List UInt8} (hL : IsL r L) (k : Nat) (h : k < r.size) : digVal (L.take (k + 1)) = 10 * digVal (L.take k) + (r[k].toNat - 48) := by
  cases hL; exact digVal_step r k h
theorem digVal_takeL {r : ByteArray} {L : List UInt8} (hL : IsL r L) (k : Nat) (hk : k ≤ 13) (ha : (L.take k).all isDig = true) : digVal (L.take k) < 10000000000000 := by
  cases hL; exact digVal_take_lt r k hk ha
theorem same_size (s : ByteArray) : s.size = s.size := rfl
/-- The string behind a minus. -/
theorem minus_tail (s : ByteArray) : (s.extract 1 s.size).data.toList = s.data.toList.tail := by
  rw [ByteArray.data_extract, Array.toList_extract]
  simp only [List.extract]
  rw [List.take_of_length_le (by rw [List.length_drop, len_eq]; omega), List.drop_one]
theorem minus_size (s : ByteArray) : (s.extract 1 s.size).size = s.size - 1 := by
  rw [ByteArray.size_extract, Nat.min_self]


set_option maxHeartbeats 4000000 in
theorem number_plus (s : ByteArray) (L : List UInt8) (w : World) (hs : s.size ≤ maxLen) (hL : IsL s L) (hm : ∀ h : 0 < s.size, ((s[0].toNat : Int) == 45) = false) :
    Calls Tryz.prog 232 #[.string s] w fun e w' => e = .returned (.tuple #[.int .i64 (numFrom 1 false L).1, .bool (numFrom 1 false L).2]) ∧ w = w' := by
  unfold maxLen at hs
  by_cases h0 : s.size < 1
  · rw [numFrom_no hL (digsOk_short _ _ (by have := same_size s; omega))]
    go_enter Tryz.func232, Tryz.ntmps232
    go_wp2_with fail
    all_goals go_ret2
    all_goals exact ⟨rfl, rfl⟩
  have hm1 := hm (by omega)
  clear hm
  by_cases h13 : 13 < s.size
  · rw [numFrom_no hL (digsOk_long _ _ (by have := same_size s; omega))]
    go_enter Tryz.func232, Tryz.ntmps232
    go_wp2_with fail
    all_goals go_ret2
    all_goals exact ⟨rfl, rfl⟩
  have hp : 0 < s.size := by have := same_size s; omega
  by_cases hzz : ((s[0].toNat : Int) == 48) = true ∧ 1 < s.size
  · obtain ⟨hz, h1⟩ := hzz
    rw [numFrom_no hL (digsOk_zero _ _ hp (by simpa using hz) (Or.inl h1))]
    go_enter Tryz.func232, Tryz.ntmps232
    go_wp2_with fail
    all_goals go_ret2
    all_goals exact ⟨rfl, rfl⟩
  have HZ : zOk false s := by
    intro _ e
    have e' : ((s[0].toNat : Int) == 48) = true := by simp [e]
    exact ⟨Nat.le_of_not_lt fun h => hzz ⟨e', h⟩, rfl⟩
  by_cases hz : ((s[0].toNat : Int) == 48) = true
  all_goals
    first | (have hz' : ((s[0].toNat : Int) == 48) = false := by simpa using hz) | skip
    first | (have h1 : ¬ 1 < s.size := fun h => hzz ⟨hz, h⟩) | skip
    clear hzz
    go_enter Tryz.func232, Tryz.ntmps232
    go_wp2_with fail
    go_loop [5, 6] (fun n i => ∃ k : Nat, k ≤ s.size ∧ i = .int .i64 k ∧ n = .int .i64 (digVal (L.take k)) ∧ (L.take k).all isDig = true) (fun _ i => s.size - (intOf i).toNat)
    case atStart => exact ⟨0, Nat.zero_le _, rfl, rfl, rfl⟩
    case round =>
      obtain ⟨k, hk, rfl, rfl, hall⟩ := hrel
      have HA : Hid ((L.take k).all isDig = true) := hall
      have hv := digVal_takeL hL k (by omega) hall
      clear hall
      by_cases hlt : k < s.size
      · have hlt' : k < s.size := by have := same_size s; omega
        cases hc : isDig (s[k]'hlt')
        · have HC : Hid (isDig (s[k]'hlt') = false) := hc
          have HN := hide (numFrom_no (sg := 1) hL (digsOk_digit false s k hlt' hc))
          clear hc
          go_wp2_with (go_at_call 236; refine (digit_any _ _).mono ?_; rintro e w' ⟨rfl, rfl⟩; rw [HC.out])
          go_ret2
          exact ⟨ret_num (a := (0, false)) HN.out.symm, rfl⟩
        · have HC : Hid (isDig (s[k]'hlt') = true) := hc
          have hb := isDig_bd hc
          have HV : Hid (digVal (L.take (k + 1)) = 10 * digVal (L.take k) + ((s[k]'hlt').toNat - 48)) := digVal_stepL hL k hlt'
          have HA' := hide (all_stepL _ hL k hlt' hc HA.out)
          clear hc
          go_wp2_with (go_at_call 236; refine (digit_any _ _).mono ?_; rintro e w' ⟨rfl, rfl⟩; rw [HC.out])
          go_round
          case rel => exact ⟨k + 1, by omega, by go_num, by rw [HV.out]; go_num, HA'.out⟩
          case measure => simp [intOf]; omega
      · have HE := hide (num_endL (sg := 1) (neg := false) (r := s) hL (k := k) (by have := same_size s; omega) (by omega) (by have := same_size s; omega) HZ HA.out)
        go_wp2_with fail
        go_ret2
        exact ⟨by rw [HE.out]; exact ret_num2 (by simp) rfl, rfl⟩

set_option maxHeartbeats 4000000 in
theorem number_minus (s : ByteArray) (L : List UInt8) (w : World) (hs : s.size ≤ maxLen) (hL : IsL (s.extract 1 s.size) L) (hm0 : 0 < s.size) (hm1 : ((s[0].toNat : Int) == 45) = true) :
    Calls Tryz.prog 232 #[.string s] w fun e w' => e = .returned (.tuple #[.int .i64 (numFrom (-1) true L).1, .bool (numFrom (-1) true L).2]) ∧ w = w' := by
  unfold maxLen at hs
  by_cases h0 : (s.size - 1) < 1
  · rw [numFrom_no hL (digsOk_short _ _ (by have := minus_size s; omega))]
    go_enter Tryz.func232, Tryz.ntmps232
    go_wp2_with fail
    all_goals go_ret2
    all_goals exact ⟨rfl, rfl⟩
  
  by_cases h13 : 13 < (s.size - 1)
  · rw [numFrom_no hL (digsOk_long _ _ (by have := minus_size s; omega))]
    go_enter Tryz.func232, Tryz.ntmps232
    go_wp2_with fail
    all_goals go_ret2
    all_goals exact ⟨rfl, rfl⟩
  have hp : 0 < (s.extract 1 s.size).size := by have := minus_size s; omega
  by_cases hzz : (((s.extract 1 s.size)[0].toNat : Int) == 48) = true ∧ True
  · obtain ⟨hz, h1⟩ := hzz
    rw [numFrom_no hL (digsOk_zero _ _ hp (by simpa using hz) (Or.inr rfl))]
    go_enter Tryz.func232, Tryz.ntmps232
    go_wp2_with fail
    all_goals go_ret2
    all_goals exact ⟨rfl, rfl⟩
  have HZ : zOk true (s.extract 1 s.size) := by
    intro _ e
    have e' : (((s.extract 1 s.size)[0].toNat : Int) == 48) = true := by simp [e]
    exact (hzz ⟨e', trivial⟩).elim
  have hz' : (((s.extract 1 s.size)[0].toNat : Int) == 48) = false := by
    cases h : (((s.extract 1 s.size)[0].toNat : Int) == 48)
    · rfl
    · exact (hzz ⟨h, trivial⟩).elim
  clear hzz
  all_goals
    go_enter Tryz.func232, Tryz.ntmps232
    go_wp2_with fail
    go_loop [5, 6] (fun n i => ∃ k : Nat, k ≤ (s.size - 1) ∧ i = .int .i64 k ∧ n = .int .i64 (digVal (L.take k)) ∧ (L.take k).all isDig = true) (fun _ i => (s.size - 1) - (intOf i).toNat)
    case atStart => exact ⟨0, Nat.zero_le _, rfl, rfl, rfl⟩
    case round =>
      obtain ⟨k, hk, rfl, rfl, hall⟩ := hrel
      have HA : Hid ((L.take k).all isDig = true) := hall
      have hv := digVal_takeL hL k (by omega) hall
      clear hall
      by_cases hlt : k < (s.size - 1)
      · have hlt' : k < (s.extract 1 s.size).size := by have := minus_size s; omega
        cases hc : isDig ((s.extract 1 s.size)[k]'hlt')
        · have HC : Hid (isDig ((s.extract 1 s.size)[k]'hlt') = false) := hc
          have HN := hide (numFrom_no (sg := (-1)) hL (digsOk_digit true (s.extract 1 s.size) k hlt' hc))
          clear hc
          go_wp2_with (go_at_call 236; refine (digit_any _ _).mono ?_; rintro e w' ⟨rfl, rfl⟩; rw [HC.out])
          go_ret2
          exact ⟨ret_num (a := (0, false)) HN.out.symm, rfl⟩
        · have HC : Hid (isDig ((s.extract 1 s.size)[k]'hlt') = true) := hc
          have hb := isDig_bd hc
          have HV : Hid (digVal (L.take (k + 1)) = 10 * digVal (L.take k) + (((s.extract 1 s.size)[k]'hlt').toNat - 48)) := digVal_stepL hL k hlt'
          have HA' := hide (all_stepL _ hL k hlt' hc HA.out)
          clear hc
          go_wp2_with (go_at_call 236; refine (digit_any _ _).mono ?_; rintro e w' ⟨rfl, rfl⟩; rw [HC.out])
          go_round
          case rel => exact ⟨k + 1, by omega, by go_num, by rw [HV.out]; go_num, HA'.out⟩
          case measure => simp [intOf]; omega
      · have HE := hide (num_endL (sg := (-1)) (neg := true) (r := (s.extract 1 s.size)) hL (k := k) (by have := minus_size s; omega) (by omega) (by have := minus_size s; omega) HZ HA.out)
        go_wp2_with fail
        go_ret2
        exact ⟨by rw [HE.out]; exact ret_num2 (by omega) rfl, rfl⟩

theorem number_any (s : ByteArray) (w : World) (hs : s.size ≤ maxLen) :
    Calls Tryz.prog 232 #[.string s] w fun e w' => e = .returned (.tuple #[.int .i64 (numRes s.data.toList).1, .bool (numRes s.data.toList).2]) ∧ w = w' := by
  rw [numRes]
  by_cases h0 : 0 < s.size
  · rw [head_some s h0]
    by_cases h1 : s[0] = 45
    · rw [if_pos (by rw [h1]), ← minus_tail]
      exact number_minus s _ w hs rfl h0 (by rw [h1]; rfl)
    · rw [if_neg (by simpa using h1)]
      refine number_plus s _ w hs rfl fun _ => ?_
      rw [beq_eq_false_iff_ne]
      intro e
      exact h1 (by rw [← UInt8.toNat_inj]; simpa using (by omega : s[0].toNat = 45))
  · have e : s.data.toList = [] := List.eq_nil_of_length_eq_zero (by rw [len_eq]; omega)
    rw [if_neg (by rw [e]; simp)]
    exact number_plus s _ w hs rfl fun h => absurd h h0
end Go.Proofs.YtbkeflgafjnefaaGreatDoor
namespace Go.Proofs.YtbkeflgafjnefaaGreatDoor
open Go.RowKit
open Trib (isLet isDig isKw lettersB nameB wordB digVal digsOk numFrom numRes numOk signedB)

set_option maxHeartbeats 1000000 in
theorem signed_any (s : ByteArray) (w : World) :
    Calls Tryz.prog 237 #[.string s] w fun e w' => e = .returned (.bool (signedB s.data.toList)) ∧ w = w' := by
  have HE : Hid (s.toList = s.data.toList) := ByteArray.toList_eq s
  rw [← HE.out]
  go_enter Tryz.func237, Tryz.ntmps237
  generalize hb : isKw s.toList = b
  have Hb : Hid (isKw s.toList = b) := hb
  clear hb
  cases b
  all_goals
    go_wp2_with (go_at_call 238; refine (keyword_any _ _).mono ?_; rintro e w' ⟨rfl, rfl⟩; rw [Hb.out])
    all_goals go_ret
    all_goals exact ⟨ret_bool (by rw [signedB, Hb.out, Bool.eq_iff_iff]; clear HE Hb; simp_all), rfl⟩

end Go.Proofs.YtbkeflgafjnefaaGreatDoor
namespace Go.Proofs.YtbkeflgafjnefaaGreatDoor
open Go.RowKit
open Trib

set_option maxHeartbeats 400000 in
theorem IsLetter_any (c : UInt8) (w : World) :
    Calls Tryz.prog 85 #[.int .u8 (c.toNat : Int)] w fun e w' => e = .returned (.bool (isLet c)) ∧ w = w' := by
  go_enter Tryz.func85, Tryz.ntmps85
  go_wp2
  all_goals go_ret
  · rename_i h; exact ⟨ret_bool (by rw [isLet, decide_eq_true (show 97 ≤ c.toNat by omega), Bool.true_and]; exact decide_eq_decide.2 (by omega)), rfl⟩
  · rename_i h; exact ⟨ret_bool (by rw [isLet, decide_eq_false (show ¬ 97 ≤ c.toNat by omega), Bool.false_and]), rfl⟩
set_option maxHeartbeats 400000 in
theorem IsDigit_any (c : UInt8) (w : World) :
    Calls Tryz.prog 86 #[.int .u8 (c.toNat : Int)] w fun e w' => e = .returned (.bool (isDig c)) ∧ w = w' := by
  go_enter Tryz.func86, Tryz.ntmps86
  go_wp2
  all_goals go_ret
  · rename_i h; exact ⟨ret_bool (by rw [isDig, decide_eq_true (show 48 ≤ c.toNat by omega), Bool.true_and]; exact decide_eq_decide.2 (by omega)), rfl⟩
  · rename_i h; exact ⟨ret_bool (by rw [isDig, decide_eq_false (show ¬ 48 ≤ c.toNat by omega), Bool.false_and]), rfl⟩
set_option maxHeartbeats 1000000 in
theorem lettersEnd_any (s : ByteArray) (a : Nat) (w : World) (hs : s.size ≤ maxLen) (ha : a ≤ s.size) :
    Calls Tryz.prog 121 #[.string s, .int .i64 a] w fun e w' => e = .returned (.int .i64 (spanEnd isLet s a : Int)) ∧ w = w' := by
  unfold maxLen at hs
  generalize hE : spanEnd isLet s a = E
  have HE := hide hE
  clear hE
  go_enter Tryz.func121, Tryz.ntmps121
  go_wp2_with fail
  go_loop [1] (fun i => ∃ j : Nat, j ≤ s.size ∧ i = .int .i64 j ∧ Hid (spanEnd isLet s j = E)) (fun i => s.size - (intOf i).toNat)
  case atStart => exact ⟨a, ha, rfl, HE⟩
  case round =>
    obtain ⟨j, hj2, rfl, hJ⟩ := hrel
    by_cases hjs : j < s.size
    · cases hcj : isLet s[j]
      · have HCj := hide hcj
        have HF : Hid (E = j) := hide (hJ.out.symm.trans (spanEnd_stop _ _ _ hjs hcj))
        clear hcj hJ HE
        go_wp2_with (go_at_call 85; refine (IsLetter_any _ _).mono ?_; rintro e w' ⟨rfl, rfl⟩; rw [HCj.out])
        go_ret
        exact ⟨by rw [HF.out]; rfl, rfl⟩
      · have HCj := hide hcj
        have HF : Hid (spanEnd isLet s (j + 1) = E) := hide ((spanEnd_step _ _ _ hjs hcj).symm.trans hJ.out)
        clear hcj hJ HE
        go_wp2_with (go_at_call 85; refine (IsLetter_any _ _).mono ?_; rintro e w' ⟨rfl, rfl⟩; rw [HCj.out])
        go_round
        case rel => exact ⟨j + 1, by omega, by go_num, HF⟩
        case measure => simp [intOf]; omega
    · have HF : Hid (E = j) := hide (hJ.out.symm.trans (spanEnd_out _ _ _ hjs))
      clear hJ HE
      go_wp2_with fail
      go_ret
      exact ⟨by rw [HF.out]; rfl, rfl⟩
set_option maxHeartbeats 1000000 in
theorem digitsEnd_any (s : ByteArray) (a : Nat) (w : World) (hs : s.size ≤ maxLen) (ha : a ≤ s.size) :
    Calls Tryz.prog 183 #[.string s, .int .i64 a] w fun e w' => e = .returned (.int .i64 (spanEnd isDig s a : Int)) ∧ w = w' := by
  unfold maxLen at hs
  generalize hE : spanEnd isDig s a = E
  have HE := hide hE
  clear hE
  go_enter Tryz.func183, Tryz.ntmps183
  go_wp2_with fail
  go_loop [1] (fun i => ∃ j : Nat, j ≤ s.size ∧ i = .int .i64 j ∧ Hid (spanEnd isDig s j = E)) (fun i => s.size - (intOf i).toNat)
  case atStart => exact ⟨a, ha, rfl, HE⟩
  case round =>
    obtain ⟨j, hj2, rfl, hJ⟩ := hrel
    by_cases hjs : j < s.size
    · cases hcj : isDig s[j]
      · have HCj := hide hcj
        have HF : Hid (E = j) := hide (hJ.out.symm.trans (spanEnd_stop _ _ _ hjs hcj))
        clear hcj hJ HE
        go_wp2_with (go_at_call 86; refine (IsDigit_any _ _).mono ?_; rintro e w' ⟨rfl, rfl⟩; rw [HCj.out])
        go_ret
        exact ⟨by rw [HF.out]; rfl, rfl⟩
      · have HCj := hide hcj
        have HF : Hid (spanEnd isDig s (j + 1) = E) := hide ((spanEnd_step _ _ _ hjs hcj).symm.trans hJ.out)
        clear hcj hJ HE
        go_wp2_with (go_at_call 86; refine (IsDigit_any _ _).mono ?_; rintro e w' ⟨rfl, rfl⟩; rw [HCj.out])
        go_round
        case rel => exact ⟨j + 1, by omega, by go_num, HF⟩
        case measure => simp [intOf]; omega
    · have HF : Hid (E = j) := hide (hJ.out.symm.trans (spanEnd_out _ _ _ hjs))
      clear hJ HE
      go_wp2_with fail
      go_ret
      exact ⟨by rw [HF.out]; rfl, rfl⟩
end Go.Proofs.YtbkeflgafjnefaaGreatDoor
