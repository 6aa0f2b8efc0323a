/- Towards the law of tables: P7, V1, V2, V3, V4, P8, P9, P10, P11. -/
import Derived.Test.YtbkeflgafjnefaaGreatDoorM10
import Derived.Test.YtbkeflgafjnefaaGreatDoorM11
namespace Go.Proofs.YtbkeflgafjnefaaGreatDoor
open Go.RowKit
open Trib
theorem indexByte_idx (l : List UInt8) (c : UInt8) : Lib.indexByte l c = if l.contains c then (l.idxOf c : Int) else -1 := by
  induction l with
  | nil => rfl
  | cons b r ih =>
    rw [Lib.indexByte]
    by_cases h : b = c
    · subst h; simp
    · rw [if_neg (by simpa using h)]
      have hc : (b :: r).contains c = r.contains c := by simp; exact fun e => absurd e.symm h
      rw [hc, ih]
      cases hr : r.contains c
      · simp
      · have h0 : ¬ ((r.idxOf c : Int) == -1) = true := by simp
        have hb : (b == c) = false := by simpa using h
        simp only [if_true, if_neg h0]
        rw [List.idxOf_cons, hb]
        simp
theorem indexByte_quote (l : List UInt8) : Lib.indexByte l 39 = if (l.takeWhile notQuote).length < l.length then ((l.takeWhile notQuote).length : Int) else -1 := by
  induction l with
  | nil => rfl
  | cons b r ih =>
    rw [Lib.indexByte]
    by_cases h : b = 39
    · subst h
      rw [List.takeWhile_cons_of_neg (by decide)]; simp
    · rw [if_neg (by simpa using h), List.takeWhile_cons_of_pos (by simpa [notQuote] using h), ih]
      simp only [List.length_cons, Nat.add_lt_add_iff_right]
      split
      · rw [if_neg (by simp)]; simp
      · simp
theorem wordTo_index (s : ByteArray) (k : Nat) (hk : k < s.size) : (if Lib.indexByte (s.extract (k + 1) s.size).data.toList 39 < 0 then (s.size : Int) else (k : Int) + Lib.indexByte (s.extract (k + 1) s.size).data.toList 39 + 2) = (wordTo s k : Int) := by
  have e : (s.extract (k + 1) s.size).data.toList = s.data.toList.drop (k + 1) := by
    rw [ByteArray.data_extract, Array.toList_extract, List.extract]
    rw [List.take_of_length_le (by rw [List.length_drop, size_list]; exact Nat.le_refl _)]
  rw [e, indexByte_quote, wordTo, spanEnd]
  have hl : (s.data.toList.drop (k + 1)).length = s.size - (k + 1) := by rw [List.length_drop, size_list]
  rw [hl]
  generalize ((s.data.toList.drop (k + 1)).takeWhile notQuote).length = n
  by_cases h : n < s.size - (k + 1)
  · have h1 : ¬ ((n : Int) < 0) := by omega
    have h2 : k + 1 + n < s.size := by omega
    rw [if_pos h, if_neg h1, if_pos h2]; omega
  · have h2 : ¬ (k + 1 + n < s.size) := by omega
    rw [if_neg h, if_neg h2]; rfl
theorem u8_back (c : UInt8) : ((c.toNat : Int)).toNat.toUInt8 = c := by
  rw [Int.toNat_natCast]; simp
set_option maxHeartbeats 2000000 in
theorem wordEnd_any (s : ByteArray) (k : Nat) (w : World) (hs : s.size ≤ 1000000) (hk : k < s.size) :
    Calls Tryz.prog 185 #[.string s, .int .i64 (k : Int)] w fun x w' => x = .returned (.int .i64 (wordTo s k : Int)) ∧ w = w' := by
  have hwt := wordTo_index s k hk
  have hwl : wordTo s k ≤ s.size := by unfold wordTo; split <;> omega
  generalize hI : Lib.indexByte (s.extract (k + 1) s.size).data.toList 39 = I at hwt
  have HI := hide hI
  have HW := hide hwt
  clear hI hwt
  have hk' : (k : Int) + 1 ≤ (s.size : Int) := by omega
  have hwr : IntKind.i64.wrap ((k : Int) + 1) = (k : Int) + 1 := by rw [IntKind.wrap_i64]; omega
  by_cases hneg : I < 0
  · have HE : Hid ((wordTo s k : Int) = s.size) := hide (by have := HW.out; rw [if_pos hneg] at this; exact this.symm)
    go_enter Tryz.func185, Tryz.ntmps185
    go_wp2_with (go_at_call 261; refine (Tryz.strings_IndexByte _ 39 _).mono ?_; rintro e w' ⟨rfl, hw⟩; obtain rfl := hw.symm; rw [show (39 : Int).toNat.toUInt8 = 39 by decide, HI.out])
    go_ret
    exact ⟨by rw [HE.out]; rfl, rfl⟩
  · have HE : Hid ((wordTo s k : Int) = k + I + 2) := hide (by have := HW.out; rw [if_neg hneg] at this; exact this.symm)
    have hI2 : (k : Int) + I + 2 ≤ s.size := by rw [← HE.out]; omega
    have hneg' : 0 ≤ I := by omega
    have hw1 : IntKind.i64.wrap ((k : Int) + I) = (k : Int) + I := by rw [IntKind.wrap_i64]; omega
    have hw2 : IntKind.i64.wrap ((k : Int) + I + 2) = (k : Int) + I + 2 := by rw [IntKind.wrap_i64]; omega
    go_enter Tryz.func185, Tryz.ntmps185
    go_wp2_with (go_at_call 261; refine (Tryz.strings_IndexByte _ 39 _).mono ?_; rintro e w' ⟨rfl, hw⟩; obtain rfl := hw.symm; rw [show (39 : Int).toNat.toUInt8 = 39 by decide, HI.out])
    go_ret
    exact ⟨by rw [HE.out]; rfl, rfl⟩
end Go.Proofs.YtbkeflgafjnefaaGreatDoor
namespace Go.Proofs.YtbkeflgafjnefaaGreatDoor
open Go.RowKit
open Trib
set_option maxHeartbeats 1000000 in
theorem IsWord_any (s : ByteArray) (w : World) (hs : s.size ≤ maxLen) :
    Calls Tryz.prog 45 #[.string s] w fun e w' => e = .returned (.bool (wordB s.data.toList)) ∧ w = w' := by
  unfold maxLen at hs
  by_cases h8 : 8 < s.size
  · have h8' : (8 : Int) < (s.size : Int) := by omega
    have HW : Hid (wordB s.data.toList = false) := hide (by rw [wordB, len_eq, decide_eq_false (by omega), Bool.and_false])
    go_enter Tryz.func45, Tryz.ntmps45
    go_wp2_with fail
    go_ret
    exact ⟨by rw [HW.out]; rfl, rfl⟩
  have h8' : (s.size : Int) ≤ 8 := by omega
  go_enter Tryz.func45, Tryz.ntmps45
  go_wp2_with fail
  go_loop [9] (fun i => ∃ k : Nat, k ≤ s.size ∧ i = .int .i64 k ∧ (s.data.toList.take k).all (fun c => isLet c || isDig c) = true) (fun i => s.size - (intOf i).toNat)
  case atStart => exact ⟨0, Nat.zero_le _, rfl, rfl⟩
  case round =>
    obtain ⟨k, hk, rfl, hall⟩ := hrel
    have HA : Hid ((s.data.toList.take k).all (fun c => isLet c || isDig c) = true) := hall
    clear hall
    by_cases hlt : k < s.size
    · generalize hc : isLet s[k] = lc
      generalize hd : isDig s[k] = ld
      have HC : Hid (isLet s[k] = lc) := hc
      have HD : Hid (isDig s[k] = ld) := hd
      clear hc hd
      cases lc <;> cases ld
      · go_wp2_with (first | (go_at_call 85; refine (IsLetter_any _ _).mono ?_; rintro e w' ⟨rfl, rfl⟩; rw [HC.out]) | (go_at_call 86; refine (IsDigit_any _ _).mono ?_; rintro e w' ⟨rfl, rfl⟩; rw [HD.out]))
        go_ret
        exact ⟨ret_bool (by rw [wordB, all_false _ s k hlt (by rw [HC.out, HD.out]; rfl)]; rfl), rfl⟩
      all_goals
        go_wp2_with (first | (go_at_call 85; refine (IsLetter_any _ _).mono ?_; rintro e w' ⟨rfl, rfl⟩; rw [HC.out]) | (go_at_call 86; refine (IsDigit_any _ _).mono ?_; rintro e w' ⟨rfl, rfl⟩; rw [HD.out]))
        go_round
        case rel => exact ⟨k + 1, by omega, by go_num, all_step _ s k hlt (by rw [HC.out, HD.out]; rfl) HA.out⟩
        case measure => simp [intOf]; omega
    · go_wp2_with fail
      go_ret
      exact ⟨ret_bool (by rw [wordB, all_end _ s k hlt HA.out, len_eq, Bool.true_and]; exact (decide_eq_true (by omega)).symm), rfl⟩
/-- Digits as a number has them, whatever the sign. -/
def digsB (l : List UInt8) : Bool := digsOk false l
set_option maxHeartbeats 1000000 in
theorem areDigits_any (s : ByteArray) (w : World) (hs : s.size ≤ maxLen) :
    Calls Tryz.prog 350 #[.string s] w fun e w' => e = .returned (.bool (digsB s.data.toList)) ∧ w = w' := by
  unfold maxLen at hs
  by_cases h0 : s.size = 0
  · have h0' : ((s.size : Int) == 0) = true := by simp [h0]
    have HW : Hid (digsB s.data.toList = false) := hide (digsOk_short _ _ (by omega))
    go_enter Tryz.func350, Tryz.ntmps350
    go_wp2_with fail
    go_ret
    exact ⟨by rw [HW.out]; rfl, rfl⟩
  have h0' : ((s.size : Int) == 0) = false := by rw [beq_eq_false_iff_ne]; omega
  by_cases h13 : 13 < s.size
  · have h13' : (13 : Int) < (s.size : Int) := by omega
    have HW : Hid (digsB s.data.toList = false) := hide (digsOk_long _ _ h13)
    go_enter Tryz.func350, Tryz.ntmps350
    go_wp2_with fail
    go_ret
    exact ⟨by rw [HW.out]; rfl, rfl⟩
  have h13' : (s.size : Int) ≤ 13 := by omega
  have hp : 0 < s.size := by omega
  by_cases hzz : ((s[0].toNat : Int) == 48) = true ∧ 1 < s.size
  · obtain ⟨hz, h1⟩ := hzz
    have h1' : (1 : Int) < (s.size : Int) := by omega
    have HW : Hid (digsB s.data.toList = false) := hide (digsOk_zero _ _ hp (by simpa using hz) (Or.inl h1))
    go_enter Tryz.func350, Tryz.ntmps350
    go_wp2_with fail
    go_ret
    exact ⟨by rw [HW.out]; rfl, rfl⟩
  have HZ : zOk false s := fun _ e => ⟨Nat.le_of_not_lt fun h => hzz ⟨by simp [e], h⟩, rfl⟩
  have hpart : (1 : Int) < (s.size : Int) ∧ ((s[0].toNat : Int) == 48) = false ∨ (s.size : Int) ≤ 1 := by
    by_cases h1 : 1 < s.size
    · left
      refine ⟨by omega, ?_⟩
      cases hz : ((s[0].toNat : Int) == 48)
      · rfl
      · exact absurd ⟨hz, h1⟩ hzz
    · right; omega
  clear hzz
  rcases hpart with ⟨h1', hz⟩ | h1'
  all_goals
    go_enter Tryz.func350, Tryz.ntmps350
    go_wp2_with fail
    go_loop [24] (fun i => ∃ k : Nat, k ≤ s.size ∧ i = .int .i64 k ∧ (s.data.toList.take k).all isDig = true) (fun i => s.size - (intOf i).toNat)
    case atStart => exact ⟨0, Nat.zero_le _, rfl, rfl⟩
    case round =>
      obtain ⟨k, hk, rfl, hall⟩ := hrel
      have HA : Hid ((s.data.toList.take k).all isDig = true) := hall
      clear hall
      by_cases hlt : k < s.size
      · cases hc : isDig s[k]
        · have HC := hide hc
          have HW : Hid (digsB s.data.toList = false) := hide (digsOk_digit _ s k hlt hc)
          clear hc
          go_wp2_with (go_at_call 86; refine (IsDigit_any _ _).mono ?_; rintro e w' ⟨rfl, rfl⟩; rw [HC.out])
          go_ret
          exact ⟨by rw [HW.out]; rfl, rfl⟩
        · have HC := hide hc
          have HA' := hide (all_step _ s k hlt hc HA.out)
          clear hc
          go_wp2_with (go_at_call 86; refine (IsDigit_any _ _).mono ?_; rintro e w' ⟨rfl, rfl⟩; rw [HC.out])
          go_round
          case rel => exact ⟨k + 1, by omega, by go_num, HA'.out⟩
          case measure => simp [intOf]; omega
      · have HW : Hid (digsB s.data.toList = true) := hide (digsOk_yes false s (by omega) (by omega) (HZ (by omega)) (all_end _ s k hlt HA.out))
        go_wp2_with fail
        go_ret
        exact ⟨by rw [HW.out]; rfl, rfl⟩
end Go.Proofs.YtbkeflgafjnefaaGreatDoor
namespace Go.Proofs.YtbkeflgafjnefaaGreatDoor
open Go.RowKit
open Trib
/-- A value as the program has it. -/
def vlV (v : Vl) : Value := .agg #[.int .i64 (v.kind : Int), .int .i64 v.num, .string (bytesL v.word)]
/-- What reading a number gives. -/
def numVl (l : List UInt8) : Vl × Bool := if (numRes l).2 then (⟨1, (numRes l).1, []⟩, true) else (Vl.zero, false)
theorem digsOk_neg (l : List UInt8) : digsOk true l = (digsB l && !(l == [48])) := by
  unfold digsB digsOk
  match l with
  | [] => rfl
  | [a] =>
    by_cases h : a = 48
    · subst h; rfl
    · have e : (a == 48) = false := by simpa using h
      simp [e]
  | a :: b :: r => simp
theorem hasPrefix_minus (l : List UInt8) : Lib.hasPrefix l [45] = (l.head? == some 45) := by
  cases l with
  | nil => rfl
  | cons a r =>
    simp only [Lib.hasPrefix, List.isPrefixOf, Bool.and_true, List.head?_cons]
    rw [Bool.eq_iff_iff, beq_iff_eq, beq_iff_eq, Option.some_inj]
    exact eq_comm
theorem trimPrefix_minus (l : List UInt8) : Lib.trimPrefix l [45] = if l.head? = some 45 then l.tail else l := by
  rw [Lib.trimPrefix, hasPrefix_minus]
  by_cases h : l.head? = some 45
  · rw [if_pos (by simpa using h), if_pos h]; simp
  · rw [if_neg (by simpa using h), if_neg h]
set_option maxHeartbeats 2000000 in
theorem OfNumber_any (n : Int) (w : World) : Calls Tryz.prog 94 #[.int .i64 n] w fun e w' => e = .returned (.agg #[.int .i64 1, .int .i64 n, .string ⟨#[]⟩]) ∧ Below w.heap.size w w' := by
  go_enter Tryz.func94, Tryz.ntmps94
  go_wp2_with fail
  refine bodyPost_ret (v := .agg #[.int .i64 1, .int .i64 n, .string ⟨#[]⟩]) (by simp [results, Tryz.results94, go_sem]) rfl ⟨rfl, ?_⟩
  exact (Below.refl _ _).alloc (Nat.le_refl _) _
set_option maxHeartbeats 2000000 in
theorem OfWord_any (s : ByteArray) (w : World) : Calls Tryz.prog 96 #[.string s] w fun e w' => e = .returned (.agg #[.int .i64 2, .int .i64 0, .string s]) ∧ Below w.heap.size w w' := by
  go_enter Tryz.func96, Tryz.ntmps96
  go_wp2_with fail
  refine bodyPost_ret (v := .agg #[.int .i64 2, .int .i64 0, .string s]) (by simp [results, Tryz.results96, go_sem]) rfl ⟨rfl, ?_⟩
  exact (Below.refl _ _).alloc (Nat.le_refl _) _
/-- The digits behind a sign, perhaps; is there one? -/
theorem num_parts (s : ByteArray) : ∃ (neg : Bool) (D : ByteArray), Lib.hasPrefix s.data.toList [45] = neg ∧ (⟨(Lib.trimPrefix s.data.toList [45]).toArray⟩ : ByteArray) = D ∧ D.size ≤ s.size ∧ numRes s.data.toList = numFrom (if neg then -1 else 1) neg D.data.toList := by
  refine ⟨_, _, rfl, rfl, ?_, ?_⟩
  · show (Lib.trimPrefix s.data.toList [45]).toArray.size ≤ _
    rw [List.size_toArray, trimPrefix_minus, ← len_eq]
    split
    · rw [List.length_tail]; omega
    · exact Nat.le_refl _
  · show numRes s.data.toList = numFrom _ _ (Lib.trimPrefix s.data.toList [45])
    rw [trimPrefix_minus, hasPrefix_minus, numRes]
    by_cases h : s.data.toList.head? = some 45
    · rw [if_pos h, if_pos h, h]; rfl
    · have e : (s.data.toList.head? == some 45) = false := by simpa using h
      rw [if_neg h, if_neg h, e]; rfl
theorem below_two {w w1 w2 : World} (h1 : Below w.heap.size w w1) (h2 : Below w1.heap.size w1 w2) : Below w.heap.size w w2 := h1.trans (h2.mono h1.size)
theorem blk_cell {w : World} {c i : Nat} {cs : Array Value} {t : TypeId} (h : w.heap[c]? = some (.cells cs t (0, 0))) {x : Value} (hx : cs[i]? = some x) : w.cell? ⟨c, i, none⟩ = some x := by simp [World.cell?, h, hx]
theorem blk_free {w : World} {c i : Nat} {cs : Array Value} {t : TypeId} (h : w.heap[c]? = some (.cells cs t (0, 0))) : w.frozen? ⟨c, i, none⟩ = false := by simp [World.frozen?, h]
/-- What cutting a minus off gives. -/
def CutMinus (s : ByteArray) (neg : Bool) (D : ByteArray) : Prop := Lib.hasPrefix s.data.toList [45] = neg ∧ (⟨(Lib.trimPrefix s.data.toList [45]).toArray⟩ : ByteArray) = D
theorem cutMinus_any (s : ByteArray) (neg : Bool) (D : ByteArray) (w : World) (h : CutMinus s neg D) :
    Calls Tryz.prog 349 #[.string s, .string ⟨#[45]⟩] w fun e w' => e = .returned (.tuple #[.string D, .bool neg]) ∧ w = w' := by
  refine (Tryz.strings_CutPrefix s ⟨#[45]⟩ w).mono ?_
  rintro e w' ⟨rfl, rfl⟩
  refine ⟨?_, rfl⟩
  rw [← h.1, ← h.2]
theorem digVal_lt' (D : ByteArray) (k : Nat) (h13 : D.size ≤ 13) (ha : D.data.toList.all isDig = true) : digVal (D.data.toList.take k) < 10000000000000 := by
  have ha' : (D.data.toList.take k).all isDig = true := List.all_eq_true.2 fun x hx => List.all_eq_true.1 ha x (List.mem_of_mem_take hx)
  have h := digVal_lt _ ha'
  refine Nat.lt_of_lt_of_le h ?_
  exact Nat.le_trans (Nat.pow_le_pow_right (by omega) (Nat.le_trans (List.length_take_le' _ _) (by rw [len_eq]; exact h13))) (by decide)
/-- The digits' value, behind a name. -/
def DigsAre (D : ByteArray) (k : Nat) (n : Int) : Prop := n = (digVal (D.data.toList.take k) : Int)
theorem digsAre_next {D : ByteArray} {k : Nat} {n : Int} (h : DigsAre D k n) (hk : k < D.size) (hd : isDig D[k] = true) : DigsAre D (k + 1) (10 * n + ((D[k].toNat : Int) - 48)) := by
  unfold DigsAre at h ⊢
  have hb := isDig_bd hd
  rw [digVal_step D k hk, h]; omega
theorem digsAre_bd {D : ByteArray} {k : Nat} {n : Int} (h : DigsAre D k n) (h13 : D.size ≤ 13) (ha : D.data.toList.all isDig = true) : 0 ≤ n ∧ n < 10000000000000 := by
  unfold DigsAre at h
  have := digVal_lt' D k h13 ha
  omega
theorem all_get {D : ByteArray} (ha : D.data.toList.all isDig = true) (k : Nat) (hk : k < D.size) : isDig D[k] = true :=
  List.all_eq_true.1 ha _ (by rw [show D[k] = D.data.toList[k]'(by rw [len_eq]; exact hk) from rfl]; exact List.getElem_mem _)
/-- What comes of the digits D behind a sign or none. -/
def NumIs (R : Vl × Bool) (neg : Bool) (D : ByteArray) : Prop := R = if (numFrom (if neg then -1 else 1) neg D.data.toList).2 then (⟨1, (numFrom (if neg then -1 else 1) neg D.data.toList).1, []⟩, true) else (Vl.zero, false)
theorem numIs_no {R : Vl × Bool} {neg : Bool} {D : ByteArray} (h : NumIs R neg D) (hd : digsB D.data.toList = false ∨ neg = true ∧ D.data.toList = [48]) : R = (Vl.zero, false) := by
  unfold NumIs numFrom at h
  have e : digsOk neg D.data.toList = false := by
    rcases hd with hd | ⟨rfl, hd⟩
    · cases neg
      · exact hd
      · rw [digsOk_neg, hd]; rfl
    · rw [digsOk_neg, hd]; rfl
  rw [e] at h
  simpa using h
theorem numIs_yes {R : Vl × Bool} {neg : Bool} {D : ByteArray} {n : Int} (h : NumIs R neg D) (hd : digsB D.data.toList = true) (hz : ¬ (neg = true ∧ D.data.toList = [48])) (hn : DigsAre D D.size n) : R = if n ≤ 1000000000000 then (⟨1, (if neg then -1 else 1) * n, []⟩, true) else (Vl.zero, false) := by
  unfold NumIs numFrom at h
  have e : digsOk neg D.data.toList = true := by
    cases neg
    · exact hd
    · rw [digsOk_neg, hd]
      have : (D.data.toList == [48]) = false := by simpa using fun e => hz ⟨rfl, e⟩
      rw [this]; rfl
  unfold DigsAre at hn
  rw [List.take_of_length_le (by rw [len_eq]; exact Nat.le_refl _)] at hn
  rw [e] at h
  simp only [if_true] at h
  rw [h, hn]
  by_cases hle : digVal D.data.toList ≤ 1000000000000
  · have hle' : (digVal D.data.toList : Int) ≤ 1000000000000 := by omega
    rw [if_pos (decide_eq_true hle), if_pos hle']
  · have hle' : ¬ (digVal D.data.toList : Int) ≤ 1000000000000 := by omega
    rw [if_neg (by simpa using hle), if_neg hle']
theorem digsB_parts {l : List UInt8} (h : digsB l = true) : 1 ≤ l.length ∧ l.length ≤ 13 ∧ l.all isDig = true := by
  unfold digsB digsOk at h
  simp only [Bool.and_eq_true, decide_eq_true_eq] at h
  exact ⟨h.1.1.1, h.1.1.2, h.2⟩
set_option maxHeartbeats 4000000 in
theorem readNumber_any (s : ByteArray) (w : World) (hs : s.size ≤ maxLen) :
    Calls Tryz.prog 259 #[.string s] w fun e w' => e = .returned (.tuple #[vlV (numVl s.data.toList).1, .bool (numVl s.data.toList).2]) ∧ Below w.heap.size w w' := by
  obtain ⟨neg, D, hneg, hD, hDs, hN⟩ := num_parts s
  have hcm : CutMinus s neg D := ⟨hneg, hD⟩
  clear hneg hD
  generalize hR : numVl s.data.toList = R
  have HR : NumIs R neg D := by rw [← hR]; unfold numVl NumIs; rw [hN]
  clear hN hR
  have hsz : D.size ≤ maxLen := Nat.le_trans hDs hs
  clear hs hDs
  generalize hdg : digsB D.data.toList = dg
  have HDG := hide hdg
  clear hdg
  cases dg
  · obtain rfl := numIs_no HR (Or.inl HDG.out)
    go_enter Tryz.func259, Tryz.ntmps259
    go_wp2_with (first | (go_at_call 349; refine (cutMinus_any _ _ _ _ hcm).mono ?_; rintro e w' ⟨rfl, rfl⟩) | (go_at_call 350; refine (areDigits_any _ _ hsz).mono ?_; rintro e w' ⟨rfl, rfl⟩; rw [HDG.out]))
    refine bodyPost_ret (v := .tuple #[vlV Vl.zero, .bool false]) (by simp [results, Tryz.results259, go_sem, vlV, Vl.zero, bytesL]) rfl ⟨rfl, ?_⟩
    exact (Below.refl _ _).alloc (Nat.le_refl _) _
  · obtain ⟨hl1, hl13, hall⟩ := digsB_parts HDG.out
    rw [len_eq] at hl1 hl13
    have HALL := hide hall
    clear hall
    by_cases hz : neg = true ∧ D.data.toList = [48]
    · obtain rfl := numIs_no HR (Or.inr hz)
      obtain ⟨rfl, hz⟩ := hz
      have hzb : (D.toList == [48]) = true := by rw [ByteArray.toList_eq, hz]; rfl
      clear hz
      go_enter Tryz.func259, Tryz.ntmps259
      go_wp2_with (first | (go_at_call 349; refine (cutMinus_any _ _ _ _ hcm).mono ?_; rintro e w' ⟨rfl, rfl⟩) | (go_at_call 350; refine (areDigits_any _ _ hsz).mono ?_; rintro e w' ⟨rfl, rfl⟩; rw [HDG.out]))
      refine bodyPost_ret (v := .tuple #[vlV Vl.zero, .bool false]) (by simp [results, Tryz.results259, go_sem, vlV, Vl.zero, bytesL]) rfl ⟨rfl, ?_⟩
      exact (Below.refl _ _).alloc (Nat.le_refl _) _
    · have hzb : neg = true → (D.toList == [48]) = false := fun e => by
        rw [ByteArray.toList_eq]; simpa using fun e' => hz ⟨e, e'⟩
      have HY := fun n hn => numIs_yes (n := n) HR HDG.out hz hn
      have HY' := hide HY
      clear HY hz HR
      cases neg
      · clear hzb
        go_enter Tryz.func259, Tryz.ntmps259
        go_wp2_with (first | (go_at_call 349; refine (cutMinus_any _ _ _ _ hcm).mono ?_; rintro e w' ⟨rfl, rfl⟩) | (go_at_call 350; refine (areDigits_any _ _ hsz).mono ?_; rintro e w' ⟨rfl, rfl⟩; rw [HDG.out]))
        go_loop [6, 26] (fun n i => ∃ (k : Nat) (m : Int), k ≤ D.size ∧ i = .int .i64 k ∧ n = .int .i64 m ∧ DigsAre D k m) (fun _ i => D.size - (intOf i).toNat)
        case atStart => exact ⟨0, 0, Nat.zero_le _, rfl, rfl, rfl⟩
        case round =>
          obtain ⟨k, m, hk, rfl, rfl, hm⟩ := hrel
          obtain ⟨hm0, hm1⟩ := digsAre_bd hm hl13 HALL.out
          by_cases hlt : k < D.size
          · have hd := all_get HALL.out k hlt
            have hb := isDig_bd hd
            have HM := hide (digsAre_next hm hlt hd)
            have hk2 : (k : Int) < (D.size : Int) := by omega
            clear hm hd
            go_wp2_with fail
            go_round
            case rel => exact ⟨k + 1, 10 * m + ((D[k].toNat : Int) - 48), by omega, by go_num, by go_num, HM.out⟩
            case measure => simp [intOf]; omega
          · obtain rfl : k = D.size := by omega
            have hR := HY'.out m hm
            clear hm
            by_cases hle : m ≤ 1000000000000
            · rw [if_pos hle] at hR
              subst hR
              go_wp2_with (go_at_call 94; refine (OfNumber_any _ _).mono ?_; rintro e w2 ⟨rfl, hb2⟩; have hblk : w2.heap[w.heap.size]? = some (.cells #[.int .i64 0, .int .i64 0, .string ⟨#[]⟩] 184 (0, 0)) := (hb2.block _ (by simp)).trans (heap_alloc_new w _); have hc0 := blk_cell hblk (i := 0) rfl; have hc1 := blk_cell hblk (i := 1) rfl; have hc2 := blk_cell hblk (i := 2) rfl; have hf0 := blk_free (i := 0) hblk; have hf1 := blk_free (i := 1) hblk; have hf2 := blk_free (i := 2) hblk)
              refine bodyPost_ret (v := .tuple #[vlV _, .bool true]) (by simp [results, Tryz.results259, go_sem, vlV, bytesL, *]) rfl ⟨rfl, ?_⟩
              exact (((below_two ((Below.refl _ _).alloc (Nat.le_refl _) _) hb2).setCell (Nat.le_refl _) _).setCell (Nat.le_refl _) _).setCell (Nat.le_refl _) _
            · rw [if_neg hle] at hR
              subst hR
              go_wp2_with fail
              refine bodyPost_ret (v := .tuple #[vlV Vl.zero, .bool false]) (by simp [results, Tryz.results259, go_sem, vlV, Vl.zero, bytesL]) rfl ⟨rfl, ?_⟩
              exact (Below.refl _ _).alloc (Nat.le_refl _) _
      · replace hzb := hzb rfl
        go_enter Tryz.func259, Tryz.ntmps259
        go_wp2_with (first | (go_at_call 349; refine (cutMinus_any _ _ _ _ hcm).mono ?_; rintro e w' ⟨rfl, rfl⟩) | (go_at_call 350; refine (areDigits_any _ _ hsz).mono ?_; rintro e w' ⟨rfl, rfl⟩; rw [HDG.out]))
        go_loop [6, 26] (fun n i => ∃ (k : Nat) (m : Int), k ≤ D.size ∧ i = .int .i64 k ∧ n = .int .i64 m ∧ DigsAre D k m) (fun _ i => D.size - (intOf i).toNat)
        case atStart => exact ⟨0, 0, Nat.zero_le _, rfl, rfl, rfl⟩
        case round =>
          obtain ⟨k, m, hk, rfl, rfl, hm⟩ := hrel
          obtain ⟨hm0, hm1⟩ := digsAre_bd hm hl13 HALL.out
          by_cases hlt : k < D.size
          · have hd := all_get HALL.out k hlt
            have hb := isDig_bd hd
            have HM := hide (digsAre_next hm hlt hd)
            have hk2 : (k : Int) < (D.size : Int) := by omega
            clear hm hd
            go_wp2_with fail
            go_round
            case rel => exact ⟨k + 1, 10 * m + ((D[k].toNat : Int) - 48), by omega, by go_num, by go_num, HM.out⟩
            case measure => simp [intOf]; omega
          · obtain rfl : k = D.size := by omega
            have hR := HY'.out m hm
            clear hm
            by_cases hle : m ≤ 1000000000000
            · rw [if_pos hle] at hR
              subst hR
              go_wp2_with (go_at_call 94; refine (OfNumber_any _ _).mono ?_; rintro e w2 ⟨rfl, hb2⟩; have hblk : w2.heap[w.heap.size]? = some (.cells #[.int .i64 0, .int .i64 0, .string ⟨#[]⟩] 184 (0, 0)) := (hb2.block _ (by simp)).trans (heap_alloc_new w _); have hc0 := blk_cell hblk (i := 0) rfl; have hc1 := blk_cell hblk (i := 1) rfl; have hc2 := blk_cell hblk (i := 2) rfl; have hf0 := blk_free (i := 0) hblk; have hf1 := blk_free (i := 1) hblk; have hf2 := blk_free (i := 2) hblk)
              refine bodyPost_ret (v := .tuple #[vlV _, .bool true]) (by simp [results, Tryz.results259, go_sem, vlV, bytesL, *]) rfl ⟨rfl, ?_⟩
              exact (((below_two ((Below.refl _ _).alloc (Nat.le_refl _) _) hb2).setCell (Nat.le_refl _) _).setCell (Nat.le_refl _) _).setCell (Nat.le_refl _) _
            · rw [if_neg hle] at hR
              subst hR
              go_wp2_with fail
              refine bodyPost_ret (v := .tuple #[vlV Vl.zero, .bool false]) (by simp [results, Tryz.results259, go_sem, vlV, Vl.zero, bytesL]) rfl ⟨rfl, ?_⟩
              exact (Below.refl _ _).alloc (Nat.le_refl _) _
end Go.Proofs.YtbkeflgafjnefaaGreatDoor
namespace Go.Proofs.YtbkeflgafjnefaaGreatDoor
open Go.RowKit
open Trib
theorem hasSuffix_quote (l : List UInt8) : Lib.hasSuffix l [39] = (l.getLast? == some 39) := by
  rw [Lib.hasSuffix, Bool.eq_iff_iff, List.isSuffixOf_iff_suffix, beq_iff_eq]
  constructor
  · rintro ⟨t, rfl⟩; simp
  · intro h
    obtain ⟨t, rfl⟩ := List.getLast?_eq_some_iff.1 h
    exact ⟨t, rfl⟩
theorem trimSuffix_quote (l : List UInt8) : Lib.trimSuffix l [39] = if l.getLast? = some 39 then l.dropLast else l := by
  rw [Lib.trimSuffix, hasSuffix_quote]
  by_cases h : l.getLast? = some 39
  · rw [if_pos (by simpa using h), if_pos h, List.dropLast_eq_take]; rfl
  · rw [if_neg (by simpa using h), if_neg h]
/-- What cutting the last sign off gives. -/
def CutQ (T : ByteArray) (closed : Bool) (I : ByteArray) : Prop := Lib.hasSuffix T.data.toList [39] = closed ∧ (⟨(Lib.trimSuffix T.data.toList [39]).toArray⟩ : ByteArray) = I
theorem cutQ_any (T : ByteArray) (closed : Bool) (I : ByteArray) (w : World) (h : CutQ T closed I) (hs : T.size ≤ maxLen) :
    Calls Tryz.prog 348 #[.string T, .string ⟨#[39]⟩] w fun e w' => e = .returned (.tuple #[.string I, .bool closed]) ∧ w = w' := by
  refine (Tryz.strings_CutSuffix T ⟨#[39]⟩ w hs).mono ?_
  rintro e w' ⟨rfl, rfl⟩
  refine ⟨?_, rfl⟩
  rw [← h.1, ← h.2]
set_option maxHeartbeats 2000000 in
theorem Clone_any (s : ByteArray) (w : World) (hs : s.size ≤ 281474976710656) : Calls Tryz.prog 77 #[.string s] w fun e w' => e = .returned (.string s) ∧ Below w.heap.size w w' := by
  go_enter Tryz.func77, Tryz.ntmps77
  go_wp2_with (go_at_call 130; refine (Tryz.stringslite_Clone _ _ hs).mono ?_; rintro e w' ⟨rfl, hb⟩)
  go_ret
  exact ⟨rfl, hb⟩
/-- What reading a word gives. -/
def wordVl (l : List UInt8) : Vl × Bool := if l.tail.getLast? = some 39 ∧ wordB l.tail.dropLast = true then (⟨2, 0, l.tail.dropLast⟩, true) else (Vl.zero, false)
theorem word_parts (s : ByteArray) : ∃ (closed : Bool) (I : ByteArray), CutQ (s.extract 1 s.size) closed I ∧ I.size ≤ s.size ∧ (closed = true → wordVl s.data.toList = if wordB I.data.toList then (⟨2, 0, I.data.toList⟩, true) else (Vl.zero, false)) ∧ (closed = false → wordVl s.data.toList = (Vl.zero, false)) := by
  have ht := minus_tail s
  refine ⟨_, _, ⟨rfl, rfl⟩, ?_, ?_, ?_⟩
  · show (Lib.trimSuffix (s.extract 1 s.size).data.toList [39]).toArray.size ≤ _
    rw [List.size_toArray, ht, trimSuffix_quote, ← len_eq]
    split
    · rw [List.length_dropLast, List.length_tail]; omega
    · rw [List.length_tail]; omega
  · rw [ht, hasSuffix_quote]
    intro h
    have h' : s.data.toList.tail.getLast? = some 39 := by simpa using h
    show wordVl _ = if wordB (Lib.trimSuffix s.data.toList.tail [39]) = true then (⟨2, 0, Lib.trimSuffix s.data.toList.tail [39]⟩, true) else _
    rw [trimSuffix_quote, if_pos h', wordVl]
    by_cases hw : wordB s.data.toList.tail.dropLast = true
    · rw [if_pos ⟨h', hw⟩, if_pos hw]
    · rw [if_neg (fun e => hw e.2), if_neg hw]
  · rw [ht, hasSuffix_quote]
    intro h
    have h' : s.data.toList.tail.getLast? ≠ some 39 := by simpa using h
    rw [wordVl, if_neg (fun e => h' e.1)]
set_option maxHeartbeats 4000000 in
theorem readWord_any (s : ByteArray) (w : World) (hs : s.size ≤ 2000000) (h1 : 1 ≤ s.size) :
    Calls Tryz.prog 258 #[.string s] w fun e w' => e = .returned (.tuple #[vlV (wordVl s.data.toList).1, .bool (wordVl s.data.toList).2]) ∧ Below w.heap.size w w' := by
  obtain ⟨closed, I, hq, hIs, hyes, hno⟩ := word_parts s
  have hT : (s.extract 1 s.size).size ≤ maxLen := by rw [minus_size]; unfold maxLen; omega
  have hI : I.size ≤ maxLen := by unfold maxLen; omega
  have h1' : (1 : Int) ≤ (s.size : Int) := by omega
  generalize hR : wordVl s.data.toList = R at *
  clear hR
  cases closed
  · obtain rfl := hno rfl
    clear hyes hno
    go_enter Tryz.func258, Tryz.ntmps258
    go_wp2_with (go_at_call 348; refine (cutQ_any _ _ _ _ hq hT).mono ?_; rintro e w' ⟨rfl, rfl⟩)
    refine bodyPost_ret (v := .tuple #[vlV Vl.zero, .bool false]) (by simp [results, Tryz.results258, go_sem, vlV, Vl.zero, bytesL]) rfl ⟨rfl, ?_⟩
    exact (Below.refl _ _).alloc (Nat.le_refl _) _
  · have hR := hyes rfl
    clear hyes hno
    generalize hwb : wordB I.data.toList = wb at hR
    have HWB := hide hwb
    clear hwb
    cases wb
    · obtain rfl : R = (Vl.zero, false) := hR
      go_enter Tryz.func258, Tryz.ntmps258
      go_wp2_with (first | (go_at_call 348; refine (cutQ_any _ _ _ _ hq hT).mono ?_; rintro e w' ⟨rfl, rfl⟩) | (go_at_call 45; refine (IsWord_any _ _ hI).mono ?_; rintro e w' ⟨rfl, rfl⟩; rw [HWB.out]))
      refine bodyPost_ret (v := .tuple #[vlV Vl.zero, .bool false]) (by simp [results, Tryz.results258, go_sem, vlV, Vl.zero, bytesL]) rfl ⟨rfl, ?_⟩
      exact (Below.refl _ _).alloc (Nat.le_refl _) _
    · obtain rfl : R = (⟨2, 0, I.data.toList⟩, true) := hR
      go_enter Tryz.func258, Tryz.ntmps258
      go_wp2_with (first | (go_at_call 348; refine (cutQ_any _ _ _ _ hq hT).mono ?_; rintro e w' ⟨rfl, rfl⟩) | (go_at_call 45; refine (IsWord_any _ _ hI).mono ?_; rintro e w' ⟨rfl, rfl⟩; rw [HWB.out]) | (go_at_call 77; refine (Clone_any _ _ (by omega)).mono ?_; rintro e w1 ⟨rfl, hb1⟩) | (go_at_call 96; refine (OfWord_any _ _).mono ?_; rintro e w2 ⟨rfl, hb2⟩; have hblk : w2.heap[w.heap.size]? = some (.cells #[.int .i64 0, .int .i64 0, .string ⟨#[]⟩] 184 (0, 0)) := ((below_two hb1 hb2).block _ (by simp)).trans (heap_alloc_new w _); have hc0 := blk_cell hblk (i := 0) rfl; have hc1 := blk_cell hblk (i := 1) rfl; have hc2 := blk_cell hblk (i := 2) rfl; have hf0 := blk_free (i := 0) hblk; have hf1 := blk_free (i := 1) hblk; have hf2 := blk_free (i := 2) hblk))
      refine bodyPost_ret (v := .tuple #[vlV ⟨2, 0, I.data.toList⟩, .bool true]) (by simp [results, Tryz.results258, go_sem, vlV, bytesL, *]) rfl ⟨rfl, ?_⟩
      exact (((below_two ((Below.refl _ _).alloc (Nat.le_refl _) _) (below_two hb1 hb2)).setCell (Nat.le_refl _) _).setCell (Nat.le_refl _) _).setCell (Nat.le_refl _) _
end Go.Proofs.YtbkeflgafjnefaaGreatDoor
namespace Go.Proofs.YtbkeflgafjnefaaGreatDoor
open Go.RowKit
open Trib
theorem hasPrefix_quote (l : List UInt8) : Lib.hasPrefix l [39] = (l.head? == some 39) := by
  cases l with
  | nil => rfl
  | cons a r =>
    simp only [Lib.hasPrefix, List.isPrefixOf, Bool.and_true, List.head?_cons]
    rw [Bool.eq_iff_iff, beq_iff_eq, beq_iff_eq, Option.some_inj]
    exact eq_comm
theorem valRes_parts (l : List UInt8) : valRes l = if l = [110, 117, 108, 108] then (Vl.zero, true) else if l.head? = some 39 then wordVl l else numVl l := rfl
def QuoteB (s : ByteArray) (b : Bool) : Prop := Lib.hasPrefix s.data.toList [39] = b
theorem hasQuote_any (s : ByteArray) (b : Bool) (w : World) (h : QuoteB s b) :
    Calls Tryz.prog 257 #[.string s, .string ⟨#[39]⟩] w fun e w' => e = .returned (.bool b) ∧ w = w' := by
  refine (Tryz.strings_HasPrefix s ⟨#[39]⟩ w).mono ?_
  rintro e w' ⟨rfl, rfl⟩
  exact ⟨by rw [← h], rfl⟩
set_option maxHeartbeats 4000000 in
theorem valRead_any (s : ByteArray) (w : World) (hs : s.size ≤ 2000000) :
    Calls Tryz.prog 180 #[.string s] w fun e w' => e = .returned (.tuple #[vlV (valRes s.data.toList).1, .bool (valRes s.data.toList).2]) ∧ Below w.heap.size w w' := by
  have hsm : s.size ≤ maxLen := by unfold maxLen; omega
  generalize hR : valRes s.data.toList = R
  rw [valRes_parts] at hR
  by_cases hn : s.data.toList = [110, 117, 108, 108]
  · have hnb : (s.toList == [110, 117, 108, 108]) = true := by rw [ByteArray.toList_eq, hn]; rfl
    rw [if_pos hn] at hR
    subst hR
    clear hn
    go_enter Tryz.func180, Tryz.ntmps180
    go_wp2_with fail
    refine bodyPost_ret (v := .tuple #[vlV Vl.zero, .bool true]) (by simp [results, Tryz.results180, go_sem, vlV, Vl.zero, bytesL]) rfl ⟨rfl, ?_⟩
    exact (Below.refl _ _).alloc (Nat.le_refl _) _
  · have hnb : (s.toList == [110, 117, 108, 108]) = false := by rw [ByteArray.toList_eq]; simpa using hn
    rw [if_neg hn] at hR
    clear hn
    by_cases hq : s.data.toList.head? = some 39
    · have hqb : QuoteB s true := by unfold QuoteB; rw [hasPrefix_quote, hq]; rfl
      have h1 : 1 ≤ s.size := by
        rw [← len_eq]
        cases hl : s.data.toList with
        | nil => rw [hl] at hq; cases hq
        | cons a r => simp
      rw [if_pos hq] at hR
      obtain ⟨R1, R2⟩ := R
      have HR := hide hR
      clear hR
      clear hq
      go_enter Tryz.func180, Tryz.ntmps180
      go_wp2_with (first | (go_at_call 257; refine (hasQuote_any _ _ _ hqb).mono ?_; rintro e w' ⟨rfl, rfl⟩) | (go_at_call 258; refine (readWord_any _ _ hs h1).mono ?_; rintro e w2 ⟨rfl, hb2⟩; have hblk : w2.heap[w.heap.size]? = some (.cells #[.int .i64 0, .int .i64 0, .string ⟨#[]⟩] 184 (0, 0)) := (hb2.block _ (by simp)).trans (heap_alloc_new w _); have hc0 := blk_cell hblk (i := 0) rfl; have hc1 := blk_cell hblk (i := 1) rfl; have hc2 := blk_cell hblk (i := 2) rfl; have hf0 := blk_free (i := 0) hblk; have hf1 := blk_free (i := 1) hblk; have hf2 := blk_free (i := 2) hblk; rw [HR.out]; simp only [vlV]))
      refine bodyPost_ret (v := .tuple #[vlV R1, .bool R2]) (by simp [results, Tryz.results180, go_sem, vlV, *]) rfl ⟨rfl, ?_⟩
      exact (((below_two ((Below.refl _ _).alloc (Nat.le_refl _) _) hb2).setCell (Nat.le_refl _) _).setCell (Nat.le_refl _) _).setCell (Nat.le_refl _) _
    · have hqb : QuoteB s false := by unfold QuoteB; rw [hasPrefix_quote]; simpa using hq
      rw [if_neg hq] at hR
      obtain ⟨R1, R2⟩ := R
      have HR := hide hR
      clear hR
      clear hq
      go_enter Tryz.func180, Tryz.ntmps180
      go_wp2_with (first | (go_at_call 257; refine (hasQuote_any _ _ _ hqb).mono ?_; rintro e w' ⟨rfl, rfl⟩) | (go_at_call 259; refine (readNumber_any _ _ hsm).mono ?_; rintro e w2 ⟨rfl, hb2⟩; have hblk : w2.heap[w.heap.size]? = some (.cells #[.int .i64 0, .int .i64 0, .string ⟨#[]⟩] 184 (0, 0)) := (hb2.block _ (by simp)).trans (heap_alloc_new w _); have hc0 := blk_cell hblk (i := 0) rfl; have hc1 := blk_cell hblk (i := 1) rfl; have hc2 := blk_cell hblk (i := 2) rfl; have hf0 := blk_free (i := 0) hblk; have hf1 := blk_free (i := 1) hblk; have hf2 := blk_free (i := 2) hblk; rw [HR.out]; simp only [vlV]))
      refine bodyPost_ret (v := .tuple #[vlV R1, .bool R2]) (by simp [results, Tryz.results180, go_sem, vlV, *]) rfl ⟨rfl, ?_⟩
      exact (((below_two ((Below.refl _ _).alloc (Nat.le_refl _) _) hb2).setCell (Nat.le_refl _) _).setCell (Nat.le_refl _) _).setCell (Nat.le_refl _) _
end Go.Proofs.YtbkeflgafjnefaaGreatDoor
namespace Go.Proofs.YtbkeflgafjnefaaGreatDoor
open Go.RowKit
open Trib
/-- The scanner's state: in block b, behind lo; its text, how far it is read, its tokens. -/
def Sc (lo : Nat) (w : World) (b : Nat) (s : ByteArray) (k n : Nat) (xs : List Value) : Prop := lo ≤ b ∧ ∃ v, ScIs w b s k v ∧ w.ownsRow lo 154 2 v n xs
theorem ScIs.below {w w' : World} {b : Nat} {s : ByteArray} {k : Nat} {v : Value} (h : ScIs w b s k v) (hb : Below w.heap.size w w') : ScIs w' b s k v := (hb.block b h.lt).trans h
theorem row_below {w w' : World} {lo : Nat} {e : TypeId} {size n : Nat} {v : Value} {xs : List Value} (h : w.ownsRow lo e size v n xs) (hb : Below w.heap.size w w') : w'.ownsRow lo e size v n xs := by
  refine ⟨h.1, ?_⟩
  rcases h.2 with hn | ⟨g, cap, cur, rfl, hl, hgg, rest⟩
  · exact .inl hn
  · exact .inr ⟨g, cap, cur, rfl, hl, (hb.block g (Array.getElem?_eq_some_iff.1 hgg).1).trans hgg, rest⟩
set_option maxHeartbeats 4000000 in
theorem addValue_any (lo b : Nat) (s : ByteArray) (k e : Nat) (kn : Int) (v : Value) (n : Nat) (xs : List Value) (w : World) (h : ScIs w b s k v) (hrow : w.ownsRow lo 154 2 v n xs) (hlo : lo ≤ b) (hn : n ≤ 1000000) (hs : s.size ≤ 1000000) (hk : k ≤ e) (he : e ≤ s.size) (hkn : (kn != 0) = true) :
    Calls Tryz.prog 182 #[.pointer (some ⟨b, 0, none⟩), .int .i64 kn, .int .i64 (e : Int)] w fun x w' => x = .returned (.bool (valRes (sub s k e)).2) ∧ Sc lo w' b s e (n + 1) (xs ++ [.int .i64 kn, .string (s.extract k e)]) ∧ Below lo w w' := by
  obtain ⟨c0, c1, c2⟩ := h.cells
  have hblt := h.lt
  have hpz : (s.extract k e).size ≤ 2000000 := by rw [ByteArray.size_extract]; omega
  generalize hR : valRes (sub s k e) = R
  obtain ⟨R1, R2⟩ := R
  have HR : Hid (valRes (s.extract k e).data.toList = (R1, R2)) := hide hR
  clear hR
  go_enter Tryz.func182, Tryz.ntmps182
  go_wp2_with fail
  go_region_law (go_simp; go_at_call 180; refine (valRead_any _ _ hpz).mono ?_; rintro e2 w2 ⟨rfl, hb2⟩; rw [HR.out]; simp only [vlV]; first | (have hblk : w2.heap[w.heap.size]? = some (.cells #[.int .i64 0, .int .i64 0, .string ⟨#[]⟩] 184 (0, 0)) := (hb2.block _ (by simp)).trans (heap_alloc_new w _); have hc0 := blk_cell hblk (i := 0) rfl; have hc1 := blk_cell hblk (i := 1) rfl; have hc2 := blk_cell hblk (i := 2) rfl; have hf0 := blk_free (i := 0) hblk; have hf1 := blk_free (i := 1) hblk; have hf2 := blk_free (i := 2) hblk) | skip)
  all_goals
    have hbase : Below w.heap.size w w2 := by first | exact below_two (((Below.refl _ _).alloc (Nat.le_refl _) _).drew) hb2 | exact below_two ((Below.refl _ _).drew) hb2
    cases R2
    all_goals
      go_wp2_with (go_at_call 181; refine (add_any lo b s k e kn v n xs _ (h.below (by first | exact (((hbase.setCell (Nat.le_refl _) _).setCell (Nat.le_refl _) _).setCell (Nat.le_refl _) _) | exact hbase.alloc hbase.size _)) (row_below hrow (by first | exact (((hbase.setCell (Nat.le_refl _) _).setCell (Nat.le_refl _) _).setCell (Nat.le_refl _) _) | exact hbase.alloc hbase.size _)) hlo hn hs hk he).mono ?_; rintro e3 w3 ⟨rfl, ⟨v3, hsc3, hrow3⟩, hb3⟩; rw [hkn])
      go_ret
      refine ⟨rfl, ⟨hlo, v3, hsc3, hrow3⟩, Below.trans ?_ hb3⟩
      first | exact (((hbase.setCell (Nat.le_refl _) _).setCell (Nat.le_refl _) _).setCell (Nat.le_refl _) _).mono (by omega) | exact (hbase.alloc hbase.size _).mono (by omega)
end Go.Proofs.YtbkeflgafjnefaaGreatDoor
namespace Go.Proofs.YtbkeflgafjnefaaGreatDoor
open Go.RowKit
open Trib
def SignAt (c : UInt8) (i : Int) : Prop := Lib.indexByte signs c = i
theorem signIndex_any (c : UInt8) (i : Int) (w : World) (h : SignAt c i) :
    Calls Tryz.prog 261 #[.string ⟨#[40, 41, 44, 46, 61, 60, 62, 43, 45, 42]⟩, .int .u8 (c.toNat : Int)] w fun e w' => e = .returned (.int .i64 i) ∧ w = w' := by
  refine (Tryz.strings_IndexByte _ _ w).mono ?_
  rintro e w' ⟨rfl, rfl⟩
  refine ⟨?_, rfl⟩
  rw [u8_back, ← h]; rfl
set_option maxHeartbeats 4000000 in
theorem addSign_yes (lo b : Nat) (s : ByteArray) (k : Nat) (c : UInt8) (v : Value) (n : Nat) (xs : List Value) (w : World) (h : ScIs w b s k v) (hrow : w.ownsRow lo 154 2 v n xs) (hlo : lo ≤ b) (hn : n ≤ 1000000) (hs : s.size ≤ 1000000) (hk : k < s.size) (hc : signs.contains c = true) :
    Calls Tryz.prog 186 #[.pointer (some ⟨b, 0, none⟩), .int .u8 (c.toNat : Int)] w fun x w' => x = .returned (.bool true) ∧ Sc lo w' b s (k + 1) (n + 1) (xs ++ [.int .i64 ((4 + signs.idxOf c : Nat) : Int), .string (s.extract k (k + 1))]) ∧ Below lo w w' := by
  obtain ⟨c0, c1, c2⟩ := h.cells
  have hi : SignAt c (signs.idxOf c : Nat) := by unfold SignAt; rw [indexByte_idx, if_pos hc]
  have hlt : signs.idxOf c < 10 := by
    have := List.idxOf_lt_length_of_mem (by simpa using hc : c ∈ signs)
    exact this
  generalize signs.idxOf c = i at *
  clear hc
  have hi0 : (0 : Int) ≤ (i : Int) := by omega
  have hw1 : IntKind.i64.wrap (4 + (i : Int)) = 4 + (i : Int) := by rw [IntKind.wrap_i64]; omega
  have hw2 : IntKind.i64.wrap ((k : Int) + 1) = (k : Int) + 1 := by rw [IntKind.wrap_i64]; omega
  have hne : ((4 + (i : Int)) != 0) = true := by rw [bne_iff_ne]; omega
  have hadd := add_any lo b s k (k + 1) (4 + (i : Int)) v n xs w h hrow hlo hn hs (by omega) (by omega)
  go_enter Tryz.func186, Tryz.ntmps186
  go_wp2_with (first | (go_at_call 261; refine (signIndex_any _ _ _ hi).mono ?_; rintro e w' ⟨rfl, rfl⟩) | (go_at_call 181; refine hadd.mono ?_; rintro e3 w3 ⟨rfl, ⟨v3, hsc3, hrow3⟩, hb3⟩; rw [hne]))
  go_ret
  exact ⟨rfl, ⟨hlo, v3, hsc3, hrow3⟩, hb3⟩
set_option maxHeartbeats 4000000 in
theorem addSign_no (b : Nat) (c : UInt8) (w : World) (hc : signs.contains c = false) :
    Calls Tryz.prog 186 #[.pointer (some ⟨b, 0, none⟩), .int .u8 (c.toNat : Int)] w fun x w' => x = .returned (.bool false) ∧ w = w' := by
  have hi : SignAt c (-1) := by unfold SignAt; rw [indexByte_idx, hc]; rfl
  go_enter Tryz.func186, Tryz.ntmps186
  go_wp2_with (go_at_call 261; refine (signIndex_any _ _ _ hi).mono ?_; rintro e w' ⟨rfl, rfl⟩)
  go_ret
  exact ⟨rfl, rfl⟩
end Go.Proofs.YtbkeflgafjnefaaGreatDoor
namespace Go.Proofs.YtbkeflgafjnefaaGreatDoor
open Go.RowKit
open Trib
/-- What one token more leaves: whether it is one, the state, and that nothing below lo turned. -/
def Tok1 (lo : Nat) (w : World) (b : Nat) (s : ByteArray) (E n : Nat) (xs : List Value) (kn : Int) (k : Nat) (ok : Bool) (x : Ending) (w' : World) : Prop :=
  x = .returned (.bool ok) ∧ Sc lo w' b s E (n + 1) (xs ++ [.int .i64 kn, .string (s.extract k E)]) ∧ Below lo w w'
theorem below_drewN (lo : Nat) (w : World) (n : Nat) : Below lo w (w.drewN n) := ⟨rfl, rfl, rfl, Nat.le_refl _, fun _ _ => rfl⟩
theorem add_at (lo b : Nat) (s : ByteArray) (k e : Nat) (kn : Int) (v : Value) (n : Nat) (xs : List Value) (w W : World) (hW : W.heap = w.heap) (h : ScIs w b s k v) (hrow : w.ownsRow lo 154 2 v n xs) (hlo : lo ≤ b) (hn : n ≤ 1000000) (hs : s.size ≤ 1000000) (hk : k ≤ e) (he : e ≤ s.size) :
    Calls Tryz.prog 181 #[.pointer (some ⟨b, 0, none⟩), .int .i64 kn, .int .i64 (e : Int)] W (Tok1 lo W b s e n xs kn k (kn != 0)) := by
  refine (add_any lo b s k e kn v n xs W (by unfold ScIs at h ⊢; rw [hW]; exact h) (by unfold World.ownsRow at hrow ⊢; rw [hW]; exact hrow) hlo hn hs hk he).mono ?_
  rintro x w' ⟨h1, h2, h3⟩
  exact ⟨h1, ⟨hlo, h2⟩, h3⟩
theorem addValue_at (lo b : Nat) (s : ByteArray) (k e : Nat) (kn : Int) (v : Value) (n : Nat) (xs : List Value) (w W : World) (hW : W.heap = w.heap) (h : ScIs w b s k v) (hrow : w.ownsRow lo 154 2 v n xs) (hlo : lo ≤ b) (hn : n ≤ 1000000) (hs : s.size ≤ 1000000) (hk : k ≤ e) (he : e ≤ s.size) (hkn : (kn != 0) = true) :
    Calls Tryz.prog 182 #[.pointer (some ⟨b, 0, none⟩), .int .i64 kn, .int .i64 (e : Int)] W (Tok1 lo W b s e n xs kn k (valRes (sub s k e)).2) := by
  refine (addValue_any lo b s k e kn v n xs W (by unfold ScIs at h ⊢; rw [hW]; exact h) (by unfold World.ownsRow at hrow ⊢; rw [hW]; exact hrow) hlo hn hs hk he hkn).mono ?_
  rintro x w' ⟨h1, h2, h3⟩
  exact ⟨h1, h2, h3⟩
theorem lettersKind_at (p : ByteArray) (w W : World) (hW : W.heap = w.heap) (hg : Glob w) (hs : p.size ≤ 1000000) :
    Calls Tryz.prog 122 #[.string p] W fun x w' => x = .returned (.int .i64 (kindL p.data.toList : Int)) ∧ W = w' :=
  lettersKind_any p W (hg.kept (by rw [hW]; exact Nat.le_refl _) (fun _ _ => by rw [hW])) (by omega)
set_option maxHeartbeats 4000000 in
theorem scan_letters (lo b : Nat) (s : ByteArray) (k : Nat) (v : Value) (n : Nat) (xs : List Value) (w : World) (h : ScIs w b s k v) (hrow : w.ownsRow lo 154 2 v n xs) (hg : Glob w) (hlo : lo ≤ b) (hn : n ≤ 1000000) (hs : s.size ≤ 1000000) (hk : k < s.size) (hl : isLet s[k] = true) :
    Calls Tryz.prog 129 #[.pointer (some ⟨b, 0, none⟩)] w (Tok1 lo w b s (spanEnd isLet s k) n xs (kindL (sub s k (spanEnd isLet s k)) : Int) k (((kindL (sub s k (spanEnd isLet s k)) : Nat) : Int) != 0)) := by
  obtain ⟨c0, c1, c2⟩ := h.cells
  have hk' : (k : Int) < (s.size : Int) := by omega
  have HL := hide hl
  clear hl
  have he1 := spanEnd_ge isLet s k
  have he2 := spanEnd_le isLet s k (by omega)
  have HE : ∀ W, Calls Tryz.prog 121 #[.string s, .int .i64 (k : Int)] W fun e w' => e = .returned (.int .i64 (spanEnd isLet s k : Int)) ∧ w' = W := fun W => (lettersEnd_any s k W (by unfold maxLen; omega) (by omega)).mono fun _ _ h => ⟨h.1, h.2.symm⟩
  generalize spanEnd isLet s k = E at *
  have HE' := hide HE
  clear HE
  generalize hKK : kindL (sub s k E) = KK
  have HKK : Hid (kindL (s.extract k E).data.toList = KK) := hide hKK
  clear hKK
  have hpz : (s.extract k E).size ≤ 1000000 := by rw [ByteArray.size_extract]; omega
  have hsm : s.size ≤ maxLen := by unfold maxLen; omega
  have hkE : (k : Int) ≤ (E : Int) := by omega
  have hEs : (E : Int) ≤ (s.size : Int) := by omega
  go_enter Tryz.func129, Tryz.ntmps129
  go_wp2_with fail
  go_quiet (fail)
  have hbW := below_drewN lo w nq
  have hgW : Glob (w.drewN nq) := hg.drewN nq
  have hrowW : (w.drewN nq).ownsRow lo 154 2 v n xs := hrow
  have hW : ScIs (w.drewN nq) b s k v := h
  generalize w.drewN nq = W at *
  obtain ⟨d0, d1, d2⟩ := hW.cells
  go_wp2_with (go_at_call 85; refine (IsLetter_any _ _).mono ?_; rintro e w' ⟨rfl, rfl⟩; rw [HL.out])
  go_quiet ((go_at_call 121; exact Calls.quiet_of_same (HE'.out _)))
  go_wp2_with fail
  go_region_law (first
    | (go_simp; go_at_call 122; refine (lettersKind_at _ W _ (by rfl) hgW hpz).mono ?_; rintro e w' ⟨rfl, rfl⟩; rw [HKK.out])
    | (go_simp; go_at_call 181; refine (add_at lo b s k E _ v n xs W _ (by rfl) hW hrowW hlo hn hs he1 he2).mono ?_; rintro e3 w3 ⟨rfl, hsc3, hb3⟩))
  all_goals
    go_wp2_with fail
    go_ret
    exact ⟨rfl, hsc3, hbW.trans ((below_drewN _ _ _).trans hb3)⟩
end Go.Proofs.YtbkeflgafjnefaaGreatDoor
namespace Go.Proofs.YtbkeflgafjnefaaGreatDoor
open Go.RowKit
open Trib
set_option maxHeartbeats 4000000 in
theorem scan_digits (lo b : Nat) (s : ByteArray) (k : Nat) (v : Value) (n : Nat) (xs : List Value) (w : World) (h : ScIs w b s k v) (hrow : w.ownsRow lo 154 2 v n xs) (hlo : lo ≤ b) (hn : n ≤ 1000000) (hs : s.size ≤ 1000000) (hk : k < s.size) (hl : isLet s[k] = false) (hd : isDig s[k] = true) :
    Calls Tryz.prog 129 #[.pointer (some ⟨b, 0, none⟩)] w (Tok1 lo w b s (spanEnd isDig s (k + 1)) n xs 2 k (valRes (sub s k (spanEnd isDig s (k + 1)))).2) := by
  obtain ⟨c0, c1, c2⟩ := h.cells
  have hk' : (k : Int) < (s.size : Int) := by omega
  have he1 := spanEnd_ge isDig s k
  have he2 := spanEnd_le isDig s k (by omega)
  rw [← spanEnd_step isDig s k hk hd]
  have HE0 : ∀ W, Calls Tryz.prog 183 #[.string s, .int .i64 (k : Int)] W fun e w' => e = .returned (.int .i64 (spanEnd isDig s k : Int)) ∧ W = w' := fun W => digitsEnd_any s k W (by unfold maxLen; omega) (by omega)
  generalize spanEnd isDig s k = E at *
  have HE := hide HE0
  clear HE0
  generalize hV : (valRes (sub s k E)).2 = ok
  have HV := hide hV
  have HL := hide hl
  have HD := hide hd
  clear hV hl hd
  go_enter Tryz.func129, Tryz.ntmps129
  go_wp2_with fail
  go_quiet (fail)
  have hbW := below_drewN lo w nq
  have hrowW : (w.drewN nq).ownsRow lo 154 2 v n xs := hrow
  have hW : ScIs (w.drewN nq) b s k v := h
  generalize w.drewN nq = W at *
  obtain ⟨d0, d1, d2⟩ := hW.cells
  go_wp2_with (first | (go_at_call 85; refine (IsLetter_any _ _).mono ?_; rintro e w' ⟨rfl, rfl⟩; rw [HL.out]) | (go_at_call 86; refine (IsDigit_any _ _).mono ?_; rintro e w' ⟨rfl, rfl⟩; rw [HD.out]))
  go_region_law (first | (go_simp; go_at_call 183; refine (HE.out _).mono ?_; rintro e w' ⟨rfl, rfl⟩) | (go_simp; go_at_call 182; refine (addValue_at lo b s k E 2 v n xs W _ (by rfl) hW hrowW hlo hn hs (by omega) (by omega) (by decide)).mono ?_; rintro e3 w3 ⟨rfl, hsc3, hb3⟩; rw [HV.out]))
  all_goals
    go_wp2_with fail
    go_ret
    exact ⟨rfl, hsc3, hbW.trans ((below_drewN _ _ _).trans hb3)⟩
set_option maxHeartbeats 4000000 in
theorem scan_minus (lo b : Nat) (s : ByteArray) (k : Nat) (v : Value) (ts : List ByteArray) (w : World) (h : ScIs w b s k v) (hrow : w.ownsRow lo 154 2 v ts.length (tokCells ts)) (hlo : lo ≤ b) (hn : ts.length ≤ 1000000) (hs : s.size ≤ 1000000) (hk : k < s.size) (hc : s[k] = 45) (hm : minusB s k (lastK ts) = true) :
    Calls Tryz.prog 129 #[.pointer (some ⟨b, 0, none⟩)] w (Tok1 lo w b s (spanEnd isDig s (k + 1)) ts.length (tokCells ts) 2 k (valRes (sub s k (spanEnd isDig s (k + 1)))).2) := by
  obtain ⟨c0, c1, c2⟩ := h.cells
  have hk' : (k : Int) < (s.size : Int) := by omega
  have hk1 : k + 1 < s.size := by
    unfold minusB at hm
    simp only [Bool.and_eq_true, decide_eq_true_eq] at hm
    exact hm.1.1
  have he1 := spanEnd_ge isDig s (k + 1)
  have he2 := spanEnd_le isDig s (k + 1) (by omega)
  have HE0 : ∀ W, Calls Tryz.prog 183 #[.string s, .int .i64 ((k : Int) + 1)] W fun e w' => e = .returned (.int .i64 (spanEnd isDig s (k + 1) : Int)) ∧ W = w' := fun W => digitsEnd_any s (k + 1) W (by unfold maxLen; omega) (by omega)
  generalize spanEnd isDig s (k + 1) = E at *
  have HE := hide HE0
  clear HE0
  generalize hV : (valRes (sub s k E)).2 = ok
  have HV := hide hV
  have HL : Hid (isLet s[k] = false) := hide (by rw [hc]; decide)
  have HD : Hid (isDig s[k] = false) := hide (by rw [hc]; decide)
  have hcb : ((s[k].toNat : Int) == 45) = true := by rw [hc]; decide
  have HM := hide hm
  have hwr : IntKind.i64.wrap ((k : Int) + 1) = (k : Int) + 1 := by rw [IntKind.wrap_i64]; omega
  clear hV hc hm
  go_enter Tryz.func129, Tryz.ntmps129
  go_wp2_with fail
  go_quiet (fail)
  have hbW := below_drewN lo w nq
  have hrowW : (w.drewN nq).ownsRow lo 154 2 v ts.length (tokCells ts) := hrow
  have hW : ScIs (w.drewN nq) b s k v := h
  generalize w.drewN nq = W at *
  obtain ⟨d0, d1, d2⟩ := hW.cells
  go_upto_region 8 with (first | (go_at_call 85; refine (IsLetter_any _ _).mono ?_; rintro e w' ⟨rfl, rfl⟩; rw [HL.out]) | (go_at_call 86; refine (IsDigit_any _ _).mono ?_; rintro e w' ⟨rfl, rfl⟩; rw [HD.out]) | (go_at_call 184; refine (isNumbersMinus_any lo b s k v ts _ hW hrowW hn hs hk).mono ?_; rintro e w' ⟨rfl, q, rfl⟩; rw [HM.out]))
  go_region_law (first | (go_simp; go_at_call 183; refine (HE.out _).mono ?_; rintro e w' ⟨rfl, rfl⟩) | (go_simp; go_at_call 182; refine (addValue_at lo b s k E 2 v ts.length (tokCells ts) W _ (by rfl) hW hrowW hlo hn hs (by omega) (by omega) (by decide)).mono ?_; rintro e3 w3 ⟨rfl, hsc3, hb3⟩; rw [HV.out]))
  all_goals
    go_wp2_with fail
    go_ret
    exact ⟨rfl, hsc3, hbW.trans ((below_drewN _ _ _).trans hb3)⟩
set_option maxHeartbeats 4000000 in
theorem scan_word (lo b : Nat) (s : ByteArray) (k : Nat) (v : Value) (n : Nat) (xs : List Value) (w : World) (h : ScIs w b s k v) (hrow : w.ownsRow lo 154 2 v n xs) (hlo : lo ≤ b) (hn : n ≤ 1000000) (hs : s.size ≤ 1000000) (hk : k < s.size) (hc : s[k] = 39) :
    Calls Tryz.prog 129 #[.pointer (some ⟨b, 0, none⟩)] w (Tok1 lo w b s (wordTo s k) n xs 3 k (valRes (sub s k (wordTo s k))).2) := by
  obtain ⟨c0, c1, c2⟩ := h.cells
  have hk' : (k : Int) < (s.size : Int) := by omega
  have he1 : k ≤ wordTo s k := by
    have := spanEnd_ge notQuote s (k + 1)
    unfold wordTo; split <;> omega
  have he2 : wordTo s k ≤ s.size := by unfold wordTo; split <;> omega
  have HE0 : ∀ W, Calls Tryz.prog 185 #[.string s, .int .i64 (k : Int)] W fun e w' => e = .returned (.int .i64 (wordTo s k : Int)) ∧ W = w' := fun W => wordEnd_any s k W hs hk
  generalize wordTo s k = E at *
  have HE := hide HE0
  clear HE0
  generalize hV : (valRes (sub s k E)).2 = ok
  have HV := hide hV
  have HL : Hid (isLet s[k] = false) := hide (by rw [hc]; decide)
  have HD : Hid (isDig s[k] = false) := hide (by rw [hc]; decide)
  have hcb : ((s[k].toNat : Int) == 45) = false := by rw [hc]; decide
  have hcq : ((s[k].toNat : Int) == 39) = true := by rw [hc]; decide
  clear hV hc
  go_enter Tryz.func129, Tryz.ntmps129
  go_wp2_with fail
  go_quiet (fail)
  have hbW := below_drewN lo w nq
  have hrowW : (w.drewN nq).ownsRow lo 154 2 v n xs := hrow
  have hW : ScIs (w.drewN nq) b s k v := h
  generalize w.drewN nq = W at *
  obtain ⟨d0, d1, d2⟩ := hW.cells
  go_wp2_with (first | (go_at_call 85; refine (IsLetter_any _ _).mono ?_; rintro e w' ⟨rfl, rfl⟩; rw [HL.out]) | (go_at_call 86; refine (IsDigit_any _ _).mono ?_; rintro e w' ⟨rfl, rfl⟩; rw [HD.out]))
  go_region_law (first | (go_simp; go_at_call 185; refine (HE.out _).mono ?_; rintro e w' ⟨rfl, rfl⟩) | (go_simp; go_at_call 182; refine (addValue_at lo b s k E 3 v n xs W _ (by rfl) hW hrowW hlo hn hs (by omega) (by omega) (by decide)).mono ?_; rintro e3 w3 ⟨rfl, hsc3, hb3⟩; rw [HV.out]))
  all_goals
    go_wp2_with fail
    go_ret
    exact ⟨rfl, hsc3, hbW.trans ((below_drewN _ _ _).trans hb3)⟩
end Go.Proofs.YtbkeflgafjnefaaGreatDoor
