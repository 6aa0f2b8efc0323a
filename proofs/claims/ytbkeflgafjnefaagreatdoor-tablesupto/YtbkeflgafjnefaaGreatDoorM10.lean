/- Towards the law of tables: P6, G1. -/
import Derived.Test.YtbkeflgafjnefaaGreatDoorM09
import Derived.Test.YtbkeflgafjnefaaGreatDoorM05
import Derived.Deep.MidRow
namespace Go.Proofs.YtbkeflgafjnefaaGreatDoor
open Go.RowKit
open Trib
/-- The keywords as values. -/
def kwVals : List Value := kws.map fun k => .string (bytesL k)
/-- What the package-level variables hold that the program reads. -/
structure Glob (w : World) : Prop where
  kw : w.rangeAt 0 0 kwVals
  kinds : ∀ i, i < 30 → w.cell? ⟨2, i, none⟩ = some (.int .i64 (kindsL.getD i 0 : Nat))
  maxLen : ∃ m, w.cell? ⟨1, 0, none⟩ = some (.int .i64 m)
  big : 8 ≤ w.heap.size
theorem Glob.kept {w w' : World} (h : Glob w) (hs : w.heap.size ≤ w'.heap.size) (hb : ∀ k, k < 8 → w'.heap[k]? = w.heap[k]?) : Glob w' :=
  ⟨fun j v hv => (World.cell?_of_block (hb 0 (by decide))).trans (h.kw j v hv), fun i hi => (World.cell?_of_block (hb 2 (by decide))).trans (h.kinds i hi), h.maxLen.imp fun _ hm => (World.cell?_of_block (hb 1 (by decide))).trans hm, Nat.le_trans h.big hs⟩
theorem Glob.below {lo : Nat} {w w' : World} (h : Glob w) (hb : Below lo w w') (hl : 8 ≤ lo) : Glob w' := h.kept hb.size (fun k hk => hb.block k (by omega))
theorem Glob.grown {b : Nat} {w w' : World} (h : Glob w) (hg : w.grownBy w' (some b)) (hl : 8 ≤ b) : Glob w' := h.kept hg.size (fun k hk => hg.block k (by have := h.big; omega) (by simp; omega))
theorem Glob.drewN {w : World} (h : Glob w) (n : Nat) : Glob (w.drewN n) := h.kept (Nat.le_refl _) (fun _ _ => rfl)
/-- The keyword of a number. -/
def kwB (j : Nat) : ByteArray := bytesL (kws.getD j [])
theorem kw_i0 (w : World) : (Instr.index 316 (.agg kwVals.toArray) (.int .i64 ((0 : Nat) : Int))).run Tryz.prog w = .ok (.string (kwB 0)) w := by kernel_rfl
theorem kw_i1 (w : World) : (Instr.index 316 (.agg kwVals.toArray) (.int .i64 ((1 : Nat) : Int))).run Tryz.prog w = .ok (.string (kwB 1)) w := by kernel_rfl
theorem kw_i2 (w : World) : (Instr.index 316 (.agg kwVals.toArray) (.int .i64 ((2 : Nat) : Int))).run Tryz.prog w = .ok (.string (kwB 2)) w := by kernel_rfl
theorem kw_i3 (w : World) : (Instr.index 316 (.agg kwVals.toArray) (.int .i64 ((3 : Nat) : Int))).run Tryz.prog w = .ok (.string (kwB 3)) w := by kernel_rfl
theorem kw_i4 (w : World) : (Instr.index 316 (.agg kwVals.toArray) (.int .i64 ((4 : Nat) : Int))).run Tryz.prog w = .ok (.string (kwB 4)) w := by kernel_rfl
theorem kw_i5 (w : World) : (Instr.index 316 (.agg kwVals.toArray) (.int .i64 ((5 : Nat) : Int))).run Tryz.prog w = .ok (.string (kwB 5)) w := by kernel_rfl
theorem kw_i6 (w : World) : (Instr.index 316 (.agg kwVals.toArray) (.int .i64 ((6 : Nat) : Int))).run Tryz.prog w = .ok (.string (kwB 6)) w := by kernel_rfl
theorem kw_i7 (w : World) : (Instr.index 316 (.agg kwVals.toArray) (.int .i64 ((7 : Nat) : Int))).run Tryz.prog w = .ok (.string (kwB 7)) w := by kernel_rfl
theorem kw_i8 (w : World) : (Instr.index 316 (.agg kwVals.toArray) (.int .i64 ((8 : Nat) : Int))).run Tryz.prog w = .ok (.string (kwB 8)) w := by kernel_rfl
theorem kw_i9 (w : World) : (Instr.index 316 (.agg kwVals.toArray) (.int .i64 ((9 : Nat) : Int))).run Tryz.prog w = .ok (.string (kwB 9)) w := by kernel_rfl
theorem kw_i10 (w : World) : (Instr.index 316 (.agg kwVals.toArray) (.int .i64 ((10 : Nat) : Int))).run Tryz.prog w = .ok (.string (kwB 10)) w := by kernel_rfl
theorem kw_i11 (w : World) : (Instr.index 316 (.agg kwVals.toArray) (.int .i64 ((11 : Nat) : Int))).run Tryz.prog w = .ok (.string (kwB 11)) w := by kernel_rfl
theorem kw_i12 (w : World) : (Instr.index 316 (.agg kwVals.toArray) (.int .i64 ((12 : Nat) : Int))).run Tryz.prog w = .ok (.string (kwB 12)) w := by kernel_rfl
theorem kw_i13 (w : World) : (Instr.index 316 (.agg kwVals.toArray) (.int .i64 ((13 : Nat) : Int))).run Tryz.prog w = .ok (.string (kwB 13)) w := by kernel_rfl
theorem kw_i14 (w : World) : (Instr.index 316 (.agg kwVals.toArray) (.int .i64 ((14 : Nat) : Int))).run Tryz.prog w = .ok (.string (kwB 14)) w := by kernel_rfl
theorem kw_i15 (w : World) : (Instr.index 316 (.agg kwVals.toArray) (.int .i64 ((15 : Nat) : Int))).run Tryz.prog w = .ok (.string (kwB 15)) w := by kernel_rfl
theorem kw_i16 (w : World) : (Instr.index 316 (.agg kwVals.toArray) (.int .i64 ((16 : Nat) : Int))).run Tryz.prog w = .ok (.string (kwB 16)) w := by kernel_rfl
theorem kw_i17 (w : World) : (Instr.index 316 (.agg kwVals.toArray) (.int .i64 ((17 : Nat) : Int))).run Tryz.prog w = .ok (.string (kwB 17)) w := by kernel_rfl
theorem kw_i18 (w : World) : (Instr.index 316 (.agg kwVals.toArray) (.int .i64 ((18 : Nat) : Int))).run Tryz.prog w = .ok (.string (kwB 18)) w := by kernel_rfl
theorem kw_index (w : World) : ∀ (j : Nat), j < 19 → (Instr.index 316 (.agg kwVals.toArray) (.int .i64 (j : Int))).run Tryz.prog w = .ok (.string (kwB j)) w
  | 0, _ => kw_i0 w
  | 1, _ => kw_i1 w
  | 2, _ => kw_i2 w
  | 3, _ => kw_i3 w
  | 4, _ => kw_i4 w
  | 5, _ => kw_i5 w
  | 6, _ => kw_i6 w
  | 7, _ => kw_i7 w
  | 8, _ => kw_i8 w
  | 9, _ => kw_i9 w
  | 10, _ => kw_i10 w
  | 11, _ => kw_i11 w
  | 12, _ => kw_i12 w
  | 13, _ => kw_i13 w
  | 14, _ => kw_i14 w
  | 15, _ => kw_i15 w
  | 16, _ => kw_i16 w
  | 17, _ => kw_i17 w
  | 18, _ => kw_i18 w
  | n + 19, h => absurd h (by omega)
/-- No keyword ahead of the j-th is it. -/
def NoKw (p : List UInt8) (j : Nat) : Prop := ∀ m, m < j → p ≠ kws.getD m []
theorem NoKw.done {p : List UInt8} (h : NoKw p 19) : isKw p = false := by
  cases e : isKw p
  · rfl
  · obtain ⟨i, hi, ht, _⟩ := kw_cases e
    exact absurd ht (h i hi)
theorem NoKw.next {p : List UInt8} {j : Nat} (h : NoKw p j) (hp : p ≠ kws.getD j []) : NoKw p (j + 1) := fun m hm => by
  rcases Nat.lt_succ_iff_lt_or_eq.1 hm with h' | h'
  · exact h m h'
  · rw [h']; exact hp
theorem kw_at {p : List UInt8} {j : Nat} (hj : j < 19) (hp : p = kws.getD j []) : kindL p = 14 + j := by
  subst hp
  have : ∀ j, j < 19 → kindL (kws.getD j []) = 14 + j := by decide
  exact this j hj
set_option maxHeartbeats 4000000 in
theorem lettersKind_any (p : ByteArray) (w : World) (hg : Glob w) (hs : p.size ≤ 2000000) :
    Calls Tryz.prog 122 #[.string p] w fun x w' => x = .returned (.int .i64 (kindL p.data.toList : Int)) ∧ w = w' := by
  have hk := hg.kw
  clear hg
  go_enter Tryz.func122, Tryz.ntmps122
  go_upto_region 1 with fail
  refine wp_region_lit ?_
  refine wpList_load_mid rfl 316 (.global 0) rfl 0 0 rfl kwVals _ hk Tryz.underlying316 rfl (by kernel_rfl) ?_
  go_wp2_with fail
  go_loop [6] (fun i => ∃ j : Nat, j ≤ 19 ∧ i = .int .i64 j ∧ NoKw p.data.toList j) (fun i => 19 - (intOf i).toNat)
  case atStart => exact ⟨0, by decide, rfl, fun m hm => absurd hm (Nat.not_lt_zero _)⟩
  case round =>
    obtain ⟨j, hj, rfl, hno⟩ := hrel
    by_cases h19 : j < 19
    · have h19' : (j : Int) < 19 := by omega
      have hix := kw_index w j h19
      by_cases hp : p.data.toList = kws.getD j []
      · have HK : Hid (kindL p.data.toList = 14 + j) := hide (kw_at h19 hp)
        have hpb : (p.toList == (kwB j).toList) = true := by
          rw [ByteArray.toList_eq, ByteArray.toList_eq, hp]; simp [kwB, bytesL_list]
        have hwr : IntKind.i64.wrap (14 + (j : Int)) = 14 + (j : Int) := by rw [IntKind.wrap_i64]; omega
        clear hp hno hk
        go_wp2_with fail
        go_ret
        exact ⟨by rw [HK.out]; rfl, rfl⟩
      · have hpb : (p.toList == (kwB j).toList) = false := by
          rw [ByteArray.toList_eq, ByteArray.toList_eq]; simpa [kwB, bytesL_list] using hp
        have HN := hide (hno.next hp)
        have hwr : IntKind.i64.wrap ((j : Int) + 1) = (j : Int) + 1 := by rw [IntKind.wrap_i64]; omega
        clear hp hno hk
        go_wp2_with fail
        go_round
        case rel => exact ⟨j + 1, by omega, by go_num, HN.out⟩
        case measure => simp [intOf]; omega
    · obtain rfl : j = 19 := by omega
      have hno' := hno.done
      by_cases hl : 6 < p.size
      · have hl' : (6 : Int) < (p.size : Int) := by omega
        have HK : Hid (kindL p.data.toList = 0) := hide (by unfold kindL; rw [hno', if_neg (by simp), size_list, if_pos hl])
        clear hno hno' hk
        go_wp2_with fail
        go_ret
        exact ⟨by rw [HK.out]; rfl, rfl⟩
      · have hl' : (p.size : Int) ≤ 6 := by omega
        have HK : Hid (kindL p.data.toList = 1) := hide (by unfold kindL; rw [hno', if_neg (by simp), size_list, if_neg hl])
        clear hno hno' hk
        go_wp2_with fail
        go_ret
        exact ⟨by rw [HK.out]; rfl, rfl⟩
end Go.Proofs.YtbkeflgafjnefaaGreatDoor
namespace Go.Proofs.YtbkeflgafjnefaaGreatDoor
open Go.RowKit
open Trib
theorem takeWhile_all {α : Type} (p : α → Bool) (l : List α) : (l.takeWhile p).length = l.length ↔ l.all p = true := by
  induction l with
  | nil => simp
  | cons a r ih =>
    by_cases h : p a = true
    · simp [h]
      simpa using ih
    · simp [h]
theorem spanEnd_all (s : ByteArray) : (spanEnd isLet s 0 = s.size) ↔ s.data.toList.all isLet = true := by
  rw [← takeWhile_all]
  unfold spanEnd
  rw [List.drop_zero, Nat.zero_add, Array.length_toList]; rfl
theorem kindL_one (p : List UInt8) : (((kindL p : Nat) : Int) == 1) = (!isKw p && decide (p.length ≤ 6)) := by
  unfold kindL
  by_cases h : isKw p = true
  · rw [if_pos h, h]
    have : ¬ (((14 + kws.idxOf p : Nat) : Int) = 1) := by omega
    rw [beq_eq_false_iff_ne.2 this]; rfl
  · rw [if_neg h, Bool.eq_false_iff.2 h]
    by_cases h6 : 6 < p.length
    · rw [if_pos h6, decide_eq_false (by omega)]; rfl
    · rw [if_neg h6, decide_eq_true (by omega)]; rfl
set_option maxHeartbeats 4000000 in
theorem isName_any (s : ByteArray) (w : World) (hg : Glob w) (hs : s.size ≤ 2000000) :
    Calls Tryz.prog 69 #[.string s] w fun e w' => e = .returned (.bool (nameB s.data.toList)) ∧ w = w' := by
  by_cases h0 : s.size = 0
  · obtain rfl : s = ⟨#[]⟩ := by
      cases s with
      | mk d => exact congrArg ByteArray.mk (Array.eq_empty_of_size_eq_zero h0)
    go_enter Tryz.func69, Tryz.ntmps69
    go_wp2_with fail
    go_ret
    exact ⟨rfl, rfl⟩
  · have hne : s ≠ ⟨#[]⟩ := by intro e; subst e; exact h0 rfl
    have HE := hide (lettersEnd_any s 0 w (by unfold maxLen; omega) (Nat.zero_le _))
    have HK := hide (lettersKind_any s w hg hs)
    have hem : s.data.toList.isEmpty = false := by
      cases hl : s.data.toList with
      | nil => have := congrArg List.length hl; rw [Array.length_toList] at this; exact absurd this h0
      | cons a r => rfl
    generalize hN : nameB s.data.toList = N
    unfold nameB lettersB at hN
    rw [hem] at hN
    have hem2 : s.toList.isEmpty = false := by rw [ByteArray.toList_eq]; exact hem
    have hem3 : ¬ s.toList = [] := by intro e; rw [e] at hem2; cases hem2
    clear hg hem hne
    by_cases h1 : spanEnd isLet s 0 = s.size
    · rw [(spanEnd_all s).1 h1] at hN
      rw [h1] at HE
      have hN' : (((kindL s.data.toList : Nat) : Int) == 1) = N := by rw [kindL_one, ← hN]; simp
      have HN := hide hN'
      clear hN hN' h1
      generalize kindL s.data.toList = K at *
      go_enter Tryz.func69, Tryz.ntmps69
      go_wp2_with (first | (go_at_call 121; refine HE.out.mono ?_; rintro e w' ⟨rfl, rfl⟩) | (go_at_call 122; refine HK.out.mono ?_; rintro e w' ⟨rfl, rfl⟩))
      go_ret
      exact ⟨by rw [← HN.out]; rfl, rfl⟩
    · have ha : s.data.toList.all isLet = false := by
        cases h : s.data.toList.all isLet with
        | false => rfl
        | true => exact absurd ((spanEnd_all s).2 h) h1
      rw [ha] at hN
      obtain rfl : N = false := by rw [← hN]; rfl
      have h1' : ¬ ((spanEnd isLet s 0 : Nat) : Int) = (s.size : Int) := by omega
      clear hN ha h1
      generalize spanEnd isLet s 0 = E at *
      go_enter Tryz.func69, Tryz.ntmps69
      go_wp2_with (go_at_call 121; refine HE.out.mono ?_; rintro e w' ⟨rfl, rfl⟩)
      go_ret
      exact ⟨rfl, rfl⟩
end Go.Proofs.YtbkeflgafjnefaaGreatDoor
