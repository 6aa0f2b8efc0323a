/- Towards the law of tables: RefTok. -/
import Derived.Test.YtbkeflgafjnefaaGreatDoorM02
import Derived.Test.YtbkeflgafjnefaaGreatDoorM03
import Derived.Test.YtbkeflgafjnefaaGreatDoorProg
import Derived.Deep.DeepCutAuto
namespace Go.Proofs.YtbkeflgafjnefaaGreatDoor
open Go.RowKit
open Trib

theorem infoString : (Tryz.prog.info? 9).map (fun i => (i.zero, i.size, i.bytes)) = some (some (.string ⟨#[]⟩), 1, 16) := by kernel_rfl
theorem isLet_not45 {c : UInt8} (h : isLet c = true) : ((c.toNat : Int) == 45) = false := by
  simp [isLet] at h
  rw [beq_eq_false_iff_ne]; omega
theorem isDig_not45 {c : UInt8} (h : isDig c = true) : ((c.toNat : Int) == 45) = false := by
  simp [isDig] at h
  rw [beq_eq_false_iff_ne]; omega
/-- Facts on a piece of the text, under names that the walk leaves alone. -/
def kwAt (s : ByteArray) (a e : Nat) (b : Bool) : Prop := isKw (sub s a e) = b
def numAt (s : ByteArray) (a e : Nat) (n : Int) (b : Bool) : Prop := numRes (sub s a e) = (n, b)
def wordAt (s : ByteArray) (a e : Nat) (b : Bool) : Prop := wordB (sub s a e) = b
theorem extract_le (s : ByteArray) (a e : Nat) : (s.extract a e).size ≤ s.size := by rw [ByteArray.size_extract]; omega
theorem keyword_sub {s : ByteArray} {a e : Nat} {b : Bool} (h : kwAt s a e b) (w : World) :
    Calls Tryz.prog 238 #[.string (s.extract a e)] w fun e w' => e = .returned (.bool b) ∧ w = w' := by
  cases h
  have := keyword_any (s.extract a e) w
  rwa [ByteArray.toList_eq] at this
theorem number_sub {s : ByteArray} {a e : Nat} {n : Int} {b : Bool} (h : numAt s a e n b) (hs : s.size ≤ maxLen) (w : World) :
    Calls Tryz.prog 232 #[.string (s.extract a e)] w fun e w' => e = .returned (.tuple #[.int .i64 n, .bool b]) ∧ w = w' := by
  have := number_any (s.extract a e) w (Nat.le_trans (extract_le s a e) hs)
  rw [← sub_def, show numRes (sub s a e) = (n, b) from h] at this
  exact this
theorem word_sub {s : ByteArray} {a e : Nat} {b : Bool} (h : wordAt s a e b) (hs : s.size ≤ maxLen) (w : World) :
    Calls Tryz.prog 239 #[.string (s.extract a e)] w fun e w' => e = .returned (.bool b) ∧ w = w' := by
  cases h
  exact word_any (s.extract a e) w (Nat.le_trans (extract_le s a e) hs)
/-- What a step at the place k is, when a token is taken there or when none may be. -/
theorem step_letters {s : ByteArray} {k j : Nat} {last : List UInt8} (hk : k < s.size) (h32 : ((s[k].toNat : Int) == 32) = false) (hl : isLet s[k] = true) (hj : spanEnd isLet s (k + 1) = j) (b : Bool) (hb : kwAt s k j b) :
    tkStep s k last = if b || decide (j - k ≤ 6) then some (some (sub s k j), j) else none := by
  have e32 : (s[k] == 32) = false := by
    rw [beq_eq_false_iff_ne] at h32 ⊢; intro e; rw [e] at h32; exact h32 rfl
  rw [tkStep, getBang s k hk, e32, hl, hj, show isKw (sub s k j) = b from hb]; rfl
theorem step_digits {s : ByteArray} {k j : Nat} {last : List UInt8} (hk : k < s.size) (h32 : ((s[k].toNat : Int) == 32) = false) (hl : isLet s[k] = false) (hd : (isDig s[k] || isMinus s k last) = true) (hj : spanEnd isDig s (k + 1) = j) (n : Int) (b : Bool) (hb : numAt s k j n b) :
    tkStep s k last = if b then some (some (sub s k j), j) else none := by
  have e32 : (s[k] == 32) = false := by
    rw [beq_eq_false_iff_ne] at h32 ⊢; intro e; rw [e] at h32; exact h32 rfl
  rw [tkStep, getBang s k hk, e32, hl, hd, hj, numOk, show numRes (sub s k j) = (n, b) from hb]; rfl
theorem step_word {s : ByteArray} {k j : Nat} {last : List UInt8} (hk : k < s.size) (h39 : ((s[k].toNat : Int) == 39) = true) (hj : spanEnd notQuote s (k + 1) = j) (b : Bool) (hb : wordAt s (k + 1) j b) :
    tkStep s k last = if decide (j < s.size) && b then some (some (sub s k (j + 1)), j + 1) else none := by
  have e39 : s[k] = 39 := by
    rw [← UInt8.toNat_inj]; simp at h39; simpa using (by omega : s[k].toNat = 39)
  have hm : isMinus s k last = false := by rw [isMinus, getBang s k hk, e39]; rfl
  rw [tkStep, getBang s k hk, hm, e39, hj, show wordB (sub s (k + 1) j) = b from hb]; rfl
theorem step_sign {s : ByteArray} {k : Nat} {last : List UInt8} (hk : k < s.size) (h32 : ((s[k].toNat : Int) == 32) = false) (hl : isLet s[k] = false) (hd : (isDig s[k] || isMinus s k last) = false) (h39 : ((s[k].toNat : Int) == 39) = false) :
    tkStep s k last = if signs.contains s[k] then some (some (sub s k (k + 1)), k + 1) else none := by
  have e32 : (s[k] == 32) = false := by
    rw [beq_eq_false_iff_ne] at h32 ⊢; intro e; rw [e] at h32; exact h32 rfl
  have e39 : (s[k] == 39) = false := by
    rw [beq_eq_false_iff_ne] at h39 ⊢; intro e; rw [e] at h39; exact h39 rfl
  rw [tkStep, getBang s k hk, e32, hl, hd, e39]; rfl
/-- The relation behind an append of one token. -/
theorem tok_rel {w wr w1 : World} {out v' : Value} {ts : List ByteArray} {t : ByteArray} {o : Obj} (hbel : Below w.heap.size w wr)
    (hown : wr.ownsRow w.heap.size 9 1 out ts.length (ts.map Value.string))
    (hown' : w1.ownsRow w.heap.size 9 1 v' (ts.length + 1) (ts.map Value.string ++ [.string t])) (hgrow : (wr.alloc o).grownBy w1 out.ownBlock) :
    w1.ownsRow w.heap.size 9 1 v' (ts ++ [t]).length ((ts ++ [t]).map Value.string) ∧ Below w.heap.size w w1 := by
  refine ⟨by simpa using hown', ?_⟩
  exact (hbel.alloc hbel.size o).grown hgrow (by have := hbel.size; simp; omega) (fun k hk => (hown.lt k hk).1)

theorem kwb (s : ByteArray) (a e : Nat) : ∃ b, kwAt s a e b := ⟨_, rfl⟩
theorem numb (s : ByteArray) (a e : Nat) : ∃ n b, numAt s a e n b := ⟨(numRes (sub s a e)).1, (numRes (sub s a e)).2, rfl⟩
theorem wordb (s : ByteArray) (a e : Nat) : ∃ b, wordAt s a e b := ⟨_, rfl⟩
theorem notQuote_no {c : UInt8} (h : notQuote c = false) : ((c.toNat : Int) == 39) = true := by
  simp [notQuote] at h; rw [h]; rfl
theorem notQuote_no2 {c : UInt8} (h : notQuote c = false) : ((c.toNat : Int) != 39) = false := by
  simp [notQuote] at h; rw [h]; rfl
theorem notQuote_yes {c : UInt8} (h : notQuote c = true) : ((c.toNat : Int) == 39) = false := by
  simp [notQuote, ← UInt8.toNat_inj] at h; rw [beq_eq_false_iff_ne]; omega
theorem notQuote_yes2 {c : UInt8} (h : notQuote c = true) : ((c.toNat : Int) != 39) = true := by
  simp [notQuote, ← UInt8.toNat_inj] at h; rw [bne_iff_ne]; omega
theorem minus_is {c : UInt8} (h : ((c.toNat : Int) == 45) = true) : signs.contains c = true := by
  have e : c = 45 := by rw [← UInt8.toNat_inj]; simp at h; simpa using (by omega : c.toNat = 45)
  rw [e]; rfl
theorem sign_no {c : UInt8} (h : signs.contains c = false) : ((c.toNat : Int) == 40) = false ∧ ((c.toNat : Int) == 41) = false ∧ ((c.toNat : Int) == 44) = false ∧ ((c.toNat : Int) == 46) = false ∧ ((c.toNat : Int) == 61) = false ∧ ((c.toNat : Int) == 60) = false ∧ ((c.toNat : Int) == 62) = false ∧ ((c.toNat : Int) == 43) = false ∧ ((c.toNat : Int) == 45) = false ∧ ((c.toNat : Int) == 42) = false := by
  simp [signs, ← UInt8.toNat_inj] at h
  simp only [beq_eq_false_iff_ne]
  omega
theorem sign_yes {c : UInt8} (h : signs.contains c = true) : (c.toNat : Int) = 40 ∨ (c.toNat : Int) = 41 ∨ (c.toNat : Int) = 44 ∨ (c.toNat : Int) = 46 ∨ (c.toNat : Int) = 61 ∨ (c.toNat : Int) = 60 ∨ (c.toNat : Int) = 62 ∨ (c.toNat : Int) = 43 ∨ (c.toNat : Int) = 45 ∨ (c.toNat : Int) = 42 := by
  simp [signs, ← UInt8.toNat_inj] at h
  omega

set_option maxHeartbeats 20000000 in
set_option maxRecDepth 100000 in
theorem Tokens_any (s : ByteArray) (w : World) (hs : s.size ≤ 400) :
    Calls Tryz.prog 164 #[.string s] w (TokPost s w) := by
  obtain ⟨i0, hi, hz0, hz1, hz2⟩ := info_parts infoString
  go_enter Tryz.func164, Tryz.ntmps164
  go_wp2_with fail
  go_loopw [4, 5, 6] (fun out last i wr => ∃ (k : Nat) (ts : List ByteArray) (lb : ByteArray), k ≤ s.size ∧ i = .int .i64 k ∧ last = .string lb ∧ TkInv s k ts lb ∧
      wr.ownsRow w.heap.size 9 1 out ts.length (ts.map Value.string) ∧ Below w.heap.size w wr) (fun _ _ i _ => s.size - (intOf i).toNat)
  case atStart => exact ⟨0, [], ⟨#[]⟩, Nat.zero_le _, rfl, rfl, TkInv.start s, World.ownsRow_nil _ _ _ _, Below.refl _ _⟩
  case round =>
    obtain ⟨k, ts, lb, hk, rfl, rfl, hinv, hown, hbel⟩ := hrel
    have htl := hinv.1
    by_cases hlt : k < s.size
    · generalize hc : isLet s[k] = lc
      generalize hd : isDig s[k] = ld
      generalize hg : signedB lb.data.toList = sg
      have HC := hide hc
      have HD := hide hd
      have HG := hide hg
      clear hc hd hg
      by_cases h32 : ((s[k].toNat : Int) == 32) = true
      · -- a blank
        have hn45 : ((s[k].toNat : Int) == 45) = false := by simp at h32 ⊢; omega
        have HS : TkInv s (k + 1) ts lb := hinv.blank hlt (by rw [tkStep, getBang s k hlt, if_pos]; simp at h32; simp [← UInt8.toNat_inj]; omega)
        go_wp2_with (first | (go_at_call 235; refine (letter_any _ _).mono ?_; rintro e w' ⟨rfl, rfl⟩; first | rw [HC.out] | rw [HCj.out]) | (go_at_call 236; refine (digit_any _ _).mono ?_; rintro e w' ⟨rfl, rfl⟩; first | rw [HD.out] | rw [HDj.out]) | (go_at_call 237; refine (signed_any _ _).mono ?_; rintro e w' ⟨rfl, rfl⟩; rw [HG.out]))
        go_roundw
        case rel => exact ⟨k + 1, ts, lb, by omega, by go_num, rfl, HS, hown, hbel⟩
        case measure => simp [intOf]; omega
      have h32 : ((s[k].toNat : Int) == 32) = false := by simpa using h32
      cases lc
      case true =>
       as_aux_lemma =>
        have hn45 : ((s[k].toNat : Int) == 45) = false := isLet_not45 HC.out
        go_wp2_with (first | (go_at_call 235; refine (letter_any _ _).mono ?_; rintro e w' ⟨rfl, rfl⟩; first | rw [HC.out] | rw [HCj.out]) | (go_at_call 236; refine (digit_any _ _).mono ?_; rintro e w' ⟨rfl, rfl⟩; first | rw [HD.out] | rw [HDj.out]) | (go_at_call 237; refine (signed_any _ _).mono ?_; rintro e w' ⟨rfl, rfl⟩; rw [HG.out]))
        go_loop [6] (fun i => ∃ j : Nat, k + 1 ≤ j ∧ j ≤ s.size ∧ i = .int .i64 j ∧ Hid (spanEnd isLet s j = spanEnd isLet s (k + 1))) (fun i => s.size - (intOf i).toNat)
        case atStart => exact ⟨k + 1, Nat.le_refl _, by omega, by go_num, rfl⟩
        case round =>
          obtain ⟨j, hj1, hj2, rfl, hE⟩ := hrel
          by_cases hjs : j < s.size
          · cases hcj : isLet s[j]
            · have HCj := hide hcj
              have HE : Hid (spanEnd isLet s (k + 1) = j) := hE.out.symm.trans (spanEnd_stop _ _ _ hjs hcj)
              clear hcj hE
              obtain ⟨kb, hkb⟩ := kwb s k j
              have HS := hide (step_letters (last := lb.data.toList) hlt h32 HC.out HE.out kb hkb)
              cases kb
              case true =>
                have HS' : TkInv s j (ts ++ [s.extract k j]) (s.extract k j) := hinv.tok hlt (by rw [HS.out]; rfl)
                clear HS
                go_wp2_with (first | (go_at_call 235; refine (letter_any _ _).mono ?_; rintro e w' ⟨rfl, rfl⟩; first | rw [HC.out] | rw [HCj.out]) | (go_at_call 236; refine (digit_any _ _).mono ?_; rintro e w' ⟨rfl, rfl⟩; first | rw [HD.out] | rw [HDj.out]) | (go_at_call 237; refine (signed_any _ _).mono ?_; rintro e w' ⟨rfl, rfl⟩; rw [HG.out]) | (go_at_call 238; refine (keyword_sub hkb _).mono ?_; rintro e w' ⟨rfl, rfl⟩) | (at_builtin; refine wpList_append_own _ rfl _ _ 41 rfl w.heap.size 9 i0 (.string ⟨#[]⟩) 1 16 Tryz.underlying41 hi hz0 hz1 hz2 rfl (by decide) _ _ _ rfl (hown.alloc _) ⟨wr.heap.size, 0, none⟩ 1 1 [.string (s.extract k j)] rfl rfl (cell_one_new _ _ _) (by simp [Value.oneCell']) (by unfold maxLen; omega) (by omega) (by have := hbel.size; simp; omega) ?_; intro v' w1 hown' hgrow _))
                have R := tok_rel hbel hown hown' hgrow
                clear hown' hgrow
                go_roundw
                case rel => exact ⟨j, ts ++ [s.extract k j], _, by omega, by go_num, rfl, HS', R.1, R.2⟩
                case measure => simp [intOf]; omega
              case false =>
                by_cases h6 : (j : Int) - k ≤ 6
                · have HS' : TkInv s j (ts ++ [s.extract k j]) (s.extract k j) := hinv.tok hlt (by rw [HS.out, if_pos (by simp; omega)]; rfl)
                  clear HS
                  go_wp2_with (first | (go_at_call 235; refine (letter_any _ _).mono ?_; rintro e w' ⟨rfl, rfl⟩; first | rw [HC.out] | rw [HCj.out]) | (go_at_call 236; refine (digit_any _ _).mono ?_; rintro e w' ⟨rfl, rfl⟩; first | rw [HD.out] | rw [HDj.out]) | (go_at_call 237; refine (signed_any _ _).mono ?_; rintro e w' ⟨rfl, rfl⟩; rw [HG.out]) | (go_at_call 238; refine (keyword_sub hkb _).mono ?_; rintro e w' ⟨rfl, rfl⟩) | (at_builtin; refine wpList_append_own _ rfl _ _ 41 rfl w.heap.size 9 i0 (.string ⟨#[]⟩) 1 16 Tryz.underlying41 hi hz0 hz1 hz2 rfl (by decide) _ _ _ rfl (hown.alloc _) ⟨wr.heap.size, 0, none⟩ 1 1 [.string (s.extract k j)] rfl rfl (cell_one_new _ _ _) (by simp [Value.oneCell']) (by unfold maxLen; omega) (by omega) (by have := hbel.size; simp; omega) ?_; intro v' w1 hown' hgrow _))
                  have R := tok_rel hbel hown hown' hgrow
                  clear hown' hgrow
                  go_roundw
                  case rel => exact ⟨j, ts ++ [s.extract k j], _, by omega, by go_num, rfl, HS', R.1, R.2⟩
                  case measure => simp [intOf]; omega
                · have h6' : (!decide ((j : Int) - k ≤ 6)) = true := by simpa using h6
                  have HS' : tokensOf s = none := hinv.bad hlt (by rw [HS.out, if_neg (by simp; omega)])
                  have HSS := hide HS'
                  clear HS'
                  clear HS
                  go_wp2_with (first | (go_at_call 235; refine (letter_any _ _).mono ?_; rintro e w' ⟨rfl, rfl⟩; first | rw [HC.out] | rw [HCj.out]) | (go_at_call 236; refine (digit_any _ _).mono ?_; rintro e w' ⟨rfl, rfl⟩; first | rw [HD.out] | rw [HDj.out]) | (go_at_call 237; refine (signed_any _ _).mono ?_; rintro e w' ⟨rfl, rfl⟩; rw [HG.out]) | (go_at_call 238; refine (keyword_sub hkb _).mono ?_; rintro e w' ⟨rfl, rfl⟩) | (at_builtin; refine wpList_append_own _ rfl _ _ 41 rfl w.heap.size 9 i0 (.string ⟨#[]⟩) 1 16 Tryz.underlying41 hi hz0 hz1 hz2 rfl (by decide) _ _ _ rfl (hown.alloc _) ⟨wr.heap.size, 0, none⟩ 1 1 [.string (s.extract k j)] rfl rfl (cell_one_new _ _ _) (by simp [Value.oneCell']) (by unfold maxLen; omega) (by omega) (by have := hbel.size; simp; omega) ?_; intro v' w1 hown' hgrow _))
                  go_ret2
                  exact Or.inr ⟨HSS.out, rfl, hbel⟩
            · have HCj := hide hcj
              have HE : Hid (spanEnd isLet s (j + 1) = spanEnd isLet s (k + 1)) := (spanEnd_step _ _ _ hjs hcj).symm.trans hE.out
              clear hcj hE
              go_wp2_with (first | (go_at_call 235; refine (letter_any _ _).mono ?_; rintro e w' ⟨rfl, rfl⟩; first | rw [HC.out] | rw [HCj.out]) | (go_at_call 236; refine (digit_any _ _).mono ?_; rintro e w' ⟨rfl, rfl⟩; first | rw [HD.out] | rw [HDj.out]) | (go_at_call 237; refine (signed_any _ _).mono ?_; rintro e w' ⟨rfl, rfl⟩; rw [HG.out]))
              go_round
              case rel => exact ⟨j + 1, by omega, by omega, by go_num, HE⟩
              case measure => simp [intOf]; omega
          · have HE : Hid (spanEnd isLet s (k + 1) = j) := hE.out.symm.trans (spanEnd_out _ _ _ hjs)
            clear hE
            obtain ⟨kb, hkb⟩ := kwb s k j
            have HS := hide (step_letters (last := lb.data.toList) hlt h32 HC.out HE.out kb hkb)
            cases kb
            case true =>
              have HS' : TkInv s j (ts ++ [s.extract k j]) (s.extract k j) := hinv.tok hlt (by rw [HS.out]; rfl)
              clear HS
              go_wp2_with (first | (go_at_call 235; refine (letter_any _ _).mono ?_; rintro e w' ⟨rfl, rfl⟩; first | rw [HC.out] | rw [HCj.out]) | (go_at_call 236; refine (digit_any _ _).mono ?_; rintro e w' ⟨rfl, rfl⟩; first | rw [HD.out] | rw [HDj.out]) | (go_at_call 237; refine (signed_any _ _).mono ?_; rintro e w' ⟨rfl, rfl⟩; rw [HG.out]) | (go_at_call 238; refine (keyword_sub hkb _).mono ?_; rintro e w' ⟨rfl, rfl⟩) | (at_builtin; refine wpList_append_own _ rfl _ _ 41 rfl w.heap.size 9 i0 (.string ⟨#[]⟩) 1 16 Tryz.underlying41 hi hz0 hz1 hz2 rfl (by decide) _ _ _ rfl (hown.alloc _) ⟨wr.heap.size, 0, none⟩ 1 1 [.string (s.extract k j)] rfl rfl (cell_one_new _ _ _) (by simp [Value.oneCell']) (by unfold maxLen; omega) (by omega) (by have := hbel.size; simp; omega) ?_; intro v' w1 hown' hgrow _))
              have R := tok_rel hbel hown hown' hgrow
              clear hown' hgrow
              go_roundw
              case rel => exact ⟨j, ts ++ [s.extract k j], _, by omega, by go_num, rfl, HS', R.1, R.2⟩
              case measure => simp [intOf]; omega
            case false =>
              by_cases h6 : (j : Int) - k ≤ 6
              · have HS' : TkInv s j (ts ++ [s.extract k j]) (s.extract k j) := hinv.tok hlt (by rw [HS.out, if_pos (by simp; omega)]; rfl)
                clear HS
                go_wp2_with (first | (go_at_call 235; refine (letter_any _ _).mono ?_; rintro e w' ⟨rfl, rfl⟩; first | rw [HC.out] | rw [HCj.out]) | (go_at_call 236; refine (digit_any _ _).mono ?_; rintro e w' ⟨rfl, rfl⟩; first | rw [HD.out] | rw [HDj.out]) | (go_at_call 237; refine (signed_any _ _).mono ?_; rintro e w' ⟨rfl, rfl⟩; rw [HG.out]) | (go_at_call 238; refine (keyword_sub hkb _).mono ?_; rintro e w' ⟨rfl, rfl⟩) | (at_builtin; refine wpList_append_own _ rfl _ _ 41 rfl w.heap.size 9 i0 (.string ⟨#[]⟩) 1 16 Tryz.underlying41 hi hz0 hz1 hz2 rfl (by decide) _ _ _ rfl (hown.alloc _) ⟨wr.heap.size, 0, none⟩ 1 1 [.string (s.extract k j)] rfl rfl (cell_one_new _ _ _) (by simp [Value.oneCell']) (by unfold maxLen; omega) (by omega) (by have := hbel.size; simp; omega) ?_; intro v' w1 hown' hgrow _))
                have R := tok_rel hbel hown hown' hgrow
                clear hown' hgrow
                go_roundw
                case rel => exact ⟨j, ts ++ [s.extract k j], _, by omega, by go_num, rfl, HS', R.1, R.2⟩
                case measure => simp [intOf]; omega
              · have h6' : (!decide ((j : Int) - k ≤ 6)) = true := by simpa using h6
                have HS' : tokensOf s = none := hinv.bad hlt (by rw [HS.out, if_neg (by simp; omega)])
                have HSS := hide HS'
                clear HS'
                clear HS
                go_wp2_with (first | (go_at_call 235; refine (letter_any _ _).mono ?_; rintro e w' ⟨rfl, rfl⟩; first | rw [HC.out] | rw [HCj.out]) | (go_at_call 236; refine (digit_any _ _).mono ?_; rintro e w' ⟨rfl, rfl⟩; first | rw [HD.out] | rw [HDj.out]) | (go_at_call 237; refine (signed_any _ _).mono ?_; rintro e w' ⟨rfl, rfl⟩; rw [HG.out]) | (go_at_call 238; refine (keyword_sub hkb _).mono ?_; rintro e w' ⟨rfl, rfl⟩) | (at_builtin; refine wpList_append_own _ rfl _ _ 41 rfl w.heap.size 9 i0 (.string ⟨#[]⟩) 1 16 Tryz.underlying41 hi hz0 hz1 hz2 rfl (by decide) _ _ _ rfl (hown.alloc _) ⟨wr.heap.size, 0, none⟩ 1 1 [.string (s.extract k j)] rfl rfl (cell_one_new _ _ _) (by simp [Value.oneCell']) (by unfold maxLen; omega) (by omega) (by have := hbel.size; simp; omega) ?_; intro v' w1 hown' hgrow _))
                go_ret2
                exact Or.inr ⟨HSS.out, rfl, hbel⟩
      cases ld
      case true =>
       as_aux_lemma =>
        have hn45 : ((s[k].toNat : Int) == 45) = false := isDig_not45 HD.out
        have HMM : Hid ((isDig s[k] || isMinus s k lb.data.toList) = true) := hide (by rw [HD.out]; rfl)
        go_wp2_with (first | (go_at_call 235; refine (letter_any _ _).mono ?_; rintro e w' ⟨rfl, rfl⟩; first | rw [HC.out] | rw [HCj.out]) | (go_at_call 236; refine (digit_any _ _).mono ?_; rintro e w' ⟨rfl, rfl⟩; first | rw [HD.out] | rw [HDj.out]) | (go_at_call 237; refine (signed_any _ _).mono ?_; rintro e w' ⟨rfl, rfl⟩; rw [HG.out]))
        go_loop [6] (fun i => ∃ j : Nat, k + 1 ≤ j ∧ j ≤ s.size ∧ i = .int .i64 j ∧ Hid (spanEnd isDig s j = spanEnd isDig s (k + 1))) (fun i => s.size - (intOf i).toNat)
        case atStart => exact ⟨k + 1, Nat.le_refl _, by omega, by go_num, rfl⟩
        case round =>
          obtain ⟨j, hj1, hj2, rfl, hE⟩ := hrel
          by_cases hjs : j < s.size
          · cases hcj : isDig s[j]
            · have HDj := hide hcj
              have HE : Hid (spanEnd isDig s (k + 1) = j) := hE.out.symm.trans (spanEnd_stop _ _ _ hjs hcj)
              clear hcj hE
              obtain ⟨nb, kb, hkb⟩ := numb s k j
              have HS := hide (step_digits (last := lb.data.toList) hlt h32 HC.out HMM.out HE.out nb kb hkb)
              cases kb
              case true =>
                have HS' : TkInv s j (ts ++ [s.extract k j]) (s.extract k j) := hinv.tok hlt (by rw [HS.out]; rfl)
                clear HS
                go_wp2_with (first | (go_at_call 235; refine (letter_any _ _).mono ?_; rintro e w' ⟨rfl, rfl⟩; first | rw [HC.out] | rw [HCj.out]) | (go_at_call 236; refine (digit_any _ _).mono ?_; rintro e w' ⟨rfl, rfl⟩; first | rw [HD.out] | rw [HDj.out]) | (go_at_call 237; refine (signed_any _ _).mono ?_; rintro e w' ⟨rfl, rfl⟩; rw [HG.out]) | (go_at_call 232; refine (number_sub hkb (by unfold maxLen; omega) _).mono ?_; rintro e w' ⟨rfl, rfl⟩) | (at_builtin; refine wpList_append_own _ rfl _ _ 41 rfl w.heap.size 9 i0 (.string ⟨#[]⟩) 1 16 Tryz.underlying41 hi hz0 hz1 hz2 rfl (by decide) _ _ _ rfl (hown.alloc _) ⟨wr.heap.size, 0, none⟩ 1 1 [.string (s.extract k j)] rfl rfl (cell_one_new _ _ _) (by simp [Value.oneCell']) (by unfold maxLen; omega) (by omega) (by have := hbel.size; simp; omega) ?_; intro v' w1 hown' hgrow _))
                have R := tok_rel hbel hown hown' hgrow
                clear hown' hgrow
                go_roundw
                case rel => exact ⟨j, ts ++ [s.extract k j], _, by omega, by go_num, rfl, HS', R.1, R.2⟩
                case measure => simp [intOf]; omega
              case false =>
                have HS' : tokensOf s = none := hinv.bad hlt (by rw [HS.out]; rfl)
                have HSS := hide HS'
                clear HS'
                clear HS
                go_wp2_with (first | (go_at_call 235; refine (letter_any _ _).mono ?_; rintro e w' ⟨rfl, rfl⟩; first | rw [HC.out] | rw [HCj.out]) | (go_at_call 236; refine (digit_any _ _).mono ?_; rintro e w' ⟨rfl, rfl⟩; first | rw [HD.out] | rw [HDj.out]) | (go_at_call 237; refine (signed_any _ _).mono ?_; rintro e w' ⟨rfl, rfl⟩; rw [HG.out]) | (go_at_call 232; refine (number_sub hkb (by unfold maxLen; omega) _).mono ?_; rintro e w' ⟨rfl, rfl⟩) | (at_builtin; refine wpList_append_own _ rfl _ _ 41 rfl w.heap.size 9 i0 (.string ⟨#[]⟩) 1 16 Tryz.underlying41 hi hz0 hz1 hz2 rfl (by decide) _ _ _ rfl (hown.alloc _) ⟨wr.heap.size, 0, none⟩ 1 1 [.string (s.extract k j)] rfl rfl (cell_one_new _ _ _) (by simp [Value.oneCell']) (by unfold maxLen; omega) (by omega) (by have := hbel.size; simp; omega) ?_; intro v' w1 hown' hgrow _))
                go_ret2
                exact Or.inr ⟨HSS.out, rfl, hbel⟩
            · have HDj := hide hcj
              have HE : Hid (spanEnd isDig s (j + 1) = spanEnd isDig s (k + 1)) := (spanEnd_step _ _ _ hjs hcj).symm.trans hE.out
              clear hcj hE
              go_wp2_with (first | (go_at_call 235; refine (letter_any _ _).mono ?_; rintro e w' ⟨rfl, rfl⟩; first | rw [HC.out] | rw [HCj.out]) | (go_at_call 236; refine (digit_any _ _).mono ?_; rintro e w' ⟨rfl, rfl⟩; first | rw [HD.out] | rw [HDj.out]) | (go_at_call 237; refine (signed_any _ _).mono ?_; rintro e w' ⟨rfl, rfl⟩; rw [HG.out]))
              go_round
              case rel => exact ⟨j + 1, by omega, by omega, by go_num, HE⟩
              case measure => simp [intOf]; omega
          · have HE : Hid (spanEnd isDig s (k + 1) = j) := hE.out.symm.trans (spanEnd_out _ _ _ hjs)
            clear hE
            obtain ⟨nb, kb, hkb⟩ := numb s k j
            have HS := hide (step_digits (last := lb.data.toList) hlt h32 HC.out HMM.out HE.out nb kb hkb)
            cases kb
            case true =>
              have HS' : TkInv s j (ts ++ [s.extract k j]) (s.extract k j) := hinv.tok hlt (by rw [HS.out]; rfl)
              clear HS
              go_wp2_with (first | (go_at_call 235; refine (letter_any _ _).mono ?_; rintro e w' ⟨rfl, rfl⟩; first | rw [HC.out] | rw [HCj.out]) | (go_at_call 236; refine (digit_any _ _).mono ?_; rintro e w' ⟨rfl, rfl⟩; first | rw [HD.out] | rw [HDj.out]) | (go_at_call 237; refine (signed_any _ _).mono ?_; rintro e w' ⟨rfl, rfl⟩; rw [HG.out]) | (go_at_call 232; refine (number_sub hkb (by unfold maxLen; omega) _).mono ?_; rintro e w' ⟨rfl, rfl⟩) | (at_builtin; refine wpList_append_own _ rfl _ _ 41 rfl w.heap.size 9 i0 (.string ⟨#[]⟩) 1 16 Tryz.underlying41 hi hz0 hz1 hz2 rfl (by decide) _ _ _ rfl (hown.alloc _) ⟨wr.heap.size, 0, none⟩ 1 1 [.string (s.extract k j)] rfl rfl (cell_one_new _ _ _) (by simp [Value.oneCell']) (by unfold maxLen; omega) (by omega) (by have := hbel.size; simp; omega) ?_; intro v' w1 hown' hgrow _))
              have R := tok_rel hbel hown hown' hgrow
              clear hown' hgrow
              go_roundw
              case rel => exact ⟨j, ts ++ [s.extract k j], _, by omega, by go_num, rfl, HS', R.1, R.2⟩
              case measure => simp [intOf]; omega
            case false =>
              have HS' : tokensOf s = none := hinv.bad hlt (by rw [HS.out]; rfl)
              have HSS := hide HS'
              clear HS'
              clear HS
              go_wp2_with (first | (go_at_call 235; refine (letter_any _ _).mono ?_; rintro e w' ⟨rfl, rfl⟩; first | rw [HC.out] | rw [HCj.out]) | (go_at_call 236; refine (digit_any _ _).mono ?_; rintro e w' ⟨rfl, rfl⟩; first | rw [HD.out] | rw [HDj.out]) | (go_at_call 237; refine (signed_any _ _).mono ?_; rintro e w' ⟨rfl, rfl⟩; rw [HG.out]) | (go_at_call 232; refine (number_sub hkb (by unfold maxLen; omega) _).mono ?_; rintro e w' ⟨rfl, rfl⟩) | (at_builtin; refine wpList_append_own _ rfl _ _ 41 rfl w.heap.size 9 i0 (.string ⟨#[]⟩) 1 16 Tryz.underlying41 hi hz0 hz1 hz2 rfl (by decide) _ _ _ rfl (hown.alloc _) ⟨wr.heap.size, 0, none⟩ 1 1 [.string (s.extract k j)] rfl rfl (cell_one_new _ _ _) (by simp [Value.oneCell']) (by unfold maxLen; omega) (by omega) (by have := hbel.size; simp; omega) ?_; intro v' w1 hown' hgrow _))
              go_ret2
              exact Or.inr ⟨HSS.out, rfl, hbel⟩
      by_cases hm : ((s[k].toNat : Int) == 45) = true ∧ sg = true ∧ (k : Int) + 1 < s.size ∧ isDig s[k + 1]! = true
      · obtain ⟨h45, rfl, hk1, hdj⟩ := hm
        have hk1' : k + 1 < s.size := by omega
        rw [getBang s (k + 1) hk1'] at hdj
        have HDj := hide hdj
        have HMM : Hid ((isDig s[k] || isMinus s k lb.data.toList) = true) := hide (by rw [isMinus, HG.out, getBang s k hlt, getBang s (k + 1) hk1', hdj, decide_eq_true hk1']; simp at h45; simp [← UInt8.toNat_inj]; omega)
        clear hdj
        as_aux_lemma =>
          go_wp2_with (first | (go_at_call 235; refine (letter_any _ _).mono ?_; rintro e w' ⟨rfl, rfl⟩; first | rw [HC.out] | rw [HCj.out]) | (go_at_call 236; refine (digit_any _ _).mono ?_; rintro e w' ⟨rfl, rfl⟩; first | rw [HD.out] | rw [HDj.out]) | (go_at_call 237; refine (signed_any _ _).mono ?_; rintro e w' ⟨rfl, rfl⟩; rw [HG.out]))
          go_loop [6] (fun i => ∃ j : Nat, k + 1 ≤ j ∧ j ≤ s.size ∧ i = .int .i64 j ∧ Hid (spanEnd isDig s j = spanEnd isDig s (k + 1))) (fun i => s.size - (intOf i).toNat)
          case atStart => exact ⟨k + 1, Nat.le_refl _, by omega, by go_num, rfl⟩
          case round =>
            obtain ⟨j, hj1, hj2, rfl, hE⟩ := hrel
            by_cases hjs : j < s.size
            · cases hcj : isDig s[j]
              · have HDj := hide hcj
                have HE : Hid (spanEnd isDig s (k + 1) = j) := hE.out.symm.trans (spanEnd_stop _ _ _ hjs hcj)
                clear hcj hE
                obtain ⟨nb, kb, hkb⟩ := numb s k j
                have HS := hide (step_digits (last := lb.data.toList) hlt h32 HC.out HMM.out HE.out nb kb hkb)
                cases kb
                case true =>
                  have HS' : TkInv s j (ts ++ [s.extract k j]) (s.extract k j) := hinv.tok hlt (by rw [HS.out]; rfl)
                  clear HS
                  go_wp2_with (first | (go_at_call 235; refine (letter_any _ _).mono ?_; rintro e w' ⟨rfl, rfl⟩; first | rw [HC.out] | rw [HCj.out]) | (go_at_call 236; refine (digit_any _ _).mono ?_; rintro e w' ⟨rfl, rfl⟩; first | rw [HD.out] | rw [HDj.out]) | (go_at_call 237; refine (signed_any _ _).mono ?_; rintro e w' ⟨rfl, rfl⟩; rw [HG.out]) | (go_at_call 232; refine (number_sub hkb (by unfold maxLen; omega) _).mono ?_; rintro e w' ⟨rfl, rfl⟩) | (at_builtin; refine wpList_append_own _ rfl _ _ 41 rfl w.heap.size 9 i0 (.string ⟨#[]⟩) 1 16 Tryz.underlying41 hi hz0 hz1 hz2 rfl (by decide) _ _ _ rfl (hown.alloc _) ⟨wr.heap.size, 0, none⟩ 1 1 [.string (s.extract k j)] rfl rfl (cell_one_new _ _ _) (by simp [Value.oneCell']) (by unfold maxLen; omega) (by omega) (by have := hbel.size; simp; omega) ?_; intro v' w1 hown' hgrow _))
                  have R := tok_rel hbel hown hown' hgrow
                  clear hown' hgrow
                  go_roundw
                  case rel => exact ⟨j, ts ++ [s.extract k j], _, by omega, by go_num, rfl, HS', R.1, R.2⟩
                  case measure => simp [intOf]; omega
                case false =>
                  have HS' : tokensOf s = none := hinv.bad hlt (by rw [HS.out]; rfl)
                  have HSS := hide HS'
                  clear HS'
                  clear HS
                  go_wp2_with (first | (go_at_call 235; refine (letter_any _ _).mono ?_; rintro e w' ⟨rfl, rfl⟩; first | rw [HC.out] | rw [HCj.out]) | (go_at_call 236; refine (digit_any _ _).mono ?_; rintro e w' ⟨rfl, rfl⟩; first | rw [HD.out] | rw [HDj.out]) | (go_at_call 237; refine (signed_any _ _).mono ?_; rintro e w' ⟨rfl, rfl⟩; rw [HG.out]) | (go_at_call 232; refine (number_sub hkb (by unfold maxLen; omega) _).mono ?_; rintro e w' ⟨rfl, rfl⟩) | (at_builtin; refine wpList_append_own _ rfl _ _ 41 rfl w.heap.size 9 i0 (.string ⟨#[]⟩) 1 16 Tryz.underlying41 hi hz0 hz1 hz2 rfl (by decide) _ _ _ rfl (hown.alloc _) ⟨wr.heap.size, 0, none⟩ 1 1 [.string (s.extract k j)] rfl rfl (cell_one_new _ _ _) (by simp [Value.oneCell']) (by unfold maxLen; omega) (by omega) (by have := hbel.size; simp; omega) ?_; intro v' w1 hown' hgrow _))
                  go_ret2
                  exact Or.inr ⟨HSS.out, rfl, hbel⟩
              · have HDj := hide hcj
                have HE : Hid (spanEnd isDig s (j + 1) = spanEnd isDig s (k + 1)) := (spanEnd_step _ _ _ hjs hcj).symm.trans hE.out
                clear hcj hE
                go_wp2_with (first | (go_at_call 235; refine (letter_any _ _).mono ?_; rintro e w' ⟨rfl, rfl⟩; first | rw [HC.out] | rw [HCj.out]) | (go_at_call 236; refine (digit_any _ _).mono ?_; rintro e w' ⟨rfl, rfl⟩; first | rw [HD.out] | rw [HDj.out]) | (go_at_call 237; refine (signed_any _ _).mono ?_; rintro e w' ⟨rfl, rfl⟩; rw [HG.out]))
                go_round
                case rel => exact ⟨j + 1, by omega, by omega, by go_num, HE⟩
                case measure => simp [intOf]; omega
            · have HE : Hid (spanEnd isDig s (k + 1) = j) := hE.out.symm.trans (spanEnd_out _ _ _ hjs)
              clear hE
              obtain ⟨nb, kb, hkb⟩ := numb s k j
              have HS := hide (step_digits (last := lb.data.toList) hlt h32 HC.out HMM.out HE.out nb kb hkb)
              cases kb
              case true =>
                have HS' : TkInv s j (ts ++ [s.extract k j]) (s.extract k j) := hinv.tok hlt (by rw [HS.out]; rfl)
                clear HS
                go_wp2_with (first | (go_at_call 235; refine (letter_any _ _).mono ?_; rintro e w' ⟨rfl, rfl⟩; first | rw [HC.out] | rw [HCj.out]) | (go_at_call 236; refine (digit_any _ _).mono ?_; rintro e w' ⟨rfl, rfl⟩; first | rw [HD.out] | rw [HDj.out]) | (go_at_call 237; refine (signed_any _ _).mono ?_; rintro e w' ⟨rfl, rfl⟩; rw [HG.out]) | (go_at_call 232; refine (number_sub hkb (by unfold maxLen; omega) _).mono ?_; rintro e w' ⟨rfl, rfl⟩) | (at_builtin; refine wpList_append_own _ rfl _ _ 41 rfl w.heap.size 9 i0 (.string ⟨#[]⟩) 1 16 Tryz.underlying41 hi hz0 hz1 hz2 rfl (by decide) _ _ _ rfl (hown.alloc _) ⟨wr.heap.size, 0, none⟩ 1 1 [.string (s.extract k j)] rfl rfl (cell_one_new _ _ _) (by simp [Value.oneCell']) (by unfold maxLen; omega) (by omega) (by have := hbel.size; simp; omega) ?_; intro v' w1 hown' hgrow _))
                have R := tok_rel hbel hown hown' hgrow
                clear hown' hgrow
                go_roundw
                case rel => exact ⟨j, ts ++ [s.extract k j], _, by omega, by go_num, rfl, HS', R.1, R.2⟩
                case measure => simp [intOf]; omega
              case false =>
                have HS' : tokensOf s = none := hinv.bad hlt (by rw [HS.out]; rfl)
                have HSS := hide HS'
                clear HS'
                clear HS
                go_wp2_with (first | (go_at_call 235; refine (letter_any _ _).mono ?_; rintro e w' ⟨rfl, rfl⟩; first | rw [HC.out] | rw [HCj.out]) | (go_at_call 236; refine (digit_any _ _).mono ?_; rintro e w' ⟨rfl, rfl⟩; first | rw [HD.out] | rw [HDj.out]) | (go_at_call 237; refine (signed_any _ _).mono ?_; rintro e w' ⟨rfl, rfl⟩; rw [HG.out]) | (go_at_call 232; refine (number_sub hkb (by unfold maxLen; omega) _).mono ?_; rintro e w' ⟨rfl, rfl⟩) | (at_builtin; refine wpList_append_own _ rfl _ _ 41 rfl w.heap.size 9 i0 (.string ⟨#[]⟩) 1 16 Tryz.underlying41 hi hz0 hz1 hz2 rfl (by decide) _ _ _ rfl (hown.alloc _) ⟨wr.heap.size, 0, none⟩ 1 1 [.string (s.extract k j)] rfl rfl (cell_one_new _ _ _) (by simp [Value.oneCell']) (by unfold maxLen; omega) (by omega) (by have := hbel.size; simp; omega) ?_; intro v' w1 hown' hgrow _))
                go_ret2
                exact Or.inr ⟨HSS.out, rfl, hbel⟩
      have HMM : Hid ((isDig s[k] || isMinus s k lb.data.toList) = false) := hide (by
        rw [HD.out, Bool.false_or, Bool.eq_false_iff]
        intro e
        rw [isMinus, HG.out, getBang s k hlt] at e
        simp only [Bool.and_eq_true, beq_iff_eq, decide_eq_true_eq] at e
        exact hm ⟨by rw [e.1.1.1]; rfl, e.1.1.2, by omega, e.2⟩)
      by_cases h45 : ((s[k].toNat : Int) == 45) = true
      · have h39 : ((s[k].toNat : Int) == 39) = false := by simp at h45 ⊢; omega
        as_aux_lemma =>
          have HS := hide (step_sign (last := lb.data.toList) hlt h32 HC.out HMM.out h39)
          rw [show signs.contains s[k] = true from minus_is h45] at HS
          have H45 : Hid ((s[k].toNat : Int) = 45) := hide (by simpa using h45)
          cases sg
          · have HS' : TkInv s (k + 1) (ts ++ [s.extract k (k + 1)]) (s.extract k (k + 1)) := hinv.tok hlt (by rw [HS.out]; rfl)
            clear HS hm
            go_upto_region 13 with (first | (go_at_call 235; refine (letter_any _ _).mono ?_; rintro e w' ⟨rfl, rfl⟩; first | rw [HC.out] | rw [HCj.out]) | (go_at_call 236; refine (digit_any _ _).mono ?_; rintro e w' ⟨rfl, rfl⟩; first | rw [HD.out] | rw [HDj.out]) | (go_at_call 237; refine (signed_any _ _).mono ?_; rintro e w' ⟨rfl, rfl⟩; rw [HG.out]))
            have h45e := H45.out
            clear h45 h32 h39
            go_wp2_with (first | (go_at_call 235; refine (letter_any _ _).mono ?_; rintro e w' ⟨rfl, rfl⟩; first | rw [HC.out] | rw [HCj.out]) | (go_at_call 236; refine (digit_any _ _).mono ?_; rintro e w' ⟨rfl, rfl⟩; first | rw [HD.out] | rw [HDj.out]) | (go_at_call 237; refine (signed_any _ _).mono ?_; rintro e w' ⟨rfl, rfl⟩; rw [HG.out]) | (at_builtin; refine wpList_append_own _ rfl _ _ 41 rfl w.heap.size 9 i0 (.string ⟨#[]⟩) 1 16 Tryz.underlying41 hi hz0 hz1 hz2 rfl (by decide) _ _ _ rfl (hown.alloc _) ⟨wr.heap.size, 0, none⟩ 1 1 [.string (s.extract k (k + 1))] rfl rfl (cell_one_new _ _ _) (by simp [Value.oneCell']) (by unfold maxLen; omega) (by omega) (by have := hbel.size; simp; omega) ?_; intro v' w1 hown' hgrow _))
            have R := tok_rel hbel hown hown' hgrow
            clear hown' hgrow
            go_roundw
            case rel => exact ⟨(k + 1), ts ++ [s.extract k (k + 1)], _, by omega, by go_num, rfl, HS', R.1, R.2⟩
            case measure => simp [intOf]; omega
          by_cases hk1 : (k : Int) + 1 < s.size
          · have hk1' : k + 1 < s.size := by omega
            have HDj : Hid (isDig s[k + 1] = false) := hide (by cases e : isDig s[k + 1]; rfl; exact (hm ⟨h45, rfl, hk1, by rw [getBang s (k + 1) hk1', e]⟩).elim)
            have HS' : TkInv s (k + 1) (ts ++ [s.extract k (k + 1)]) (s.extract k (k + 1)) := hinv.tok hlt (by rw [HS.out]; rfl)
            clear HS hm
            go_upto_region 13 with (first | (go_at_call 235; refine (letter_any _ _).mono ?_; rintro e w' ⟨rfl, rfl⟩; first | rw [HC.out] | rw [HCj.out]) | (go_at_call 236; refine (digit_any _ _).mono ?_; rintro e w' ⟨rfl, rfl⟩; first | rw [HD.out] | rw [HDj.out]) | (go_at_call 237; refine (signed_any _ _).mono ?_; rintro e w' ⟨rfl, rfl⟩; rw [HG.out]))
            have h45e := H45.out
            clear h45 h32 h39
            go_wp2_with (first | (go_at_call 235; refine (letter_any _ _).mono ?_; rintro e w' ⟨rfl, rfl⟩; first | rw [HC.out] | rw [HCj.out]) | (go_at_call 236; refine (digit_any _ _).mono ?_; rintro e w' ⟨rfl, rfl⟩; first | rw [HD.out] | rw [HDj.out]) | (go_at_call 237; refine (signed_any _ _).mono ?_; rintro e w' ⟨rfl, rfl⟩; rw [HG.out]) | (at_builtin; refine wpList_append_own _ rfl _ _ 41 rfl w.heap.size 9 i0 (.string ⟨#[]⟩) 1 16 Tryz.underlying41 hi hz0 hz1 hz2 rfl (by decide) _ _ _ rfl (hown.alloc _) ⟨wr.heap.size, 0, none⟩ 1 1 [.string (s.extract k (k + 1))] rfl rfl (cell_one_new _ _ _) (by simp [Value.oneCell']) (by unfold maxLen; omega) (by omega) (by have := hbel.size; simp; omega) ?_; intro v' w1 hown' hgrow _))
            have R := tok_rel hbel hown hown' hgrow
            clear hown' hgrow
            go_roundw
            case rel => exact ⟨(k + 1), ts ++ [s.extract k (k + 1)], _, by omega, by go_num, rfl, HS', R.1, R.2⟩
            case measure => simp [intOf]; omega
          · have hk1' : decide ((k : Int) + 1 < s.size) = false := by simpa using hk1
            have HS' : TkInv s (k + 1) (ts ++ [s.extract k (k + 1)]) (s.extract k (k + 1)) := hinv.tok hlt (by rw [HS.out]; rfl)
            clear HS hm
            go_upto_region 13 with (first | (go_at_call 235; refine (letter_any _ _).mono ?_; rintro e w' ⟨rfl, rfl⟩; first | rw [HC.out] | rw [HCj.out]) | (go_at_call 236; refine (digit_any _ _).mono ?_; rintro e w' ⟨rfl, rfl⟩; first | rw [HD.out] | rw [HDj.out]) | (go_at_call 237; refine (signed_any _ _).mono ?_; rintro e w' ⟨rfl, rfl⟩; rw [HG.out]))
            have h45e := H45.out
            clear h45 h32 h39
            go_wp2_with (first | (go_at_call 235; refine (letter_any _ _).mono ?_; rintro e w' ⟨rfl, rfl⟩; first | rw [HC.out] | rw [HCj.out]) | (go_at_call 236; refine (digit_any _ _).mono ?_; rintro e w' ⟨rfl, rfl⟩; first | rw [HD.out] | rw [HDj.out]) | (go_at_call 237; refine (signed_any _ _).mono ?_; rintro e w' ⟨rfl, rfl⟩; rw [HG.out]) | (at_builtin; refine wpList_append_own _ rfl _ _ 41 rfl w.heap.size 9 i0 (.string ⟨#[]⟩) 1 16 Tryz.underlying41 hi hz0 hz1 hz2 rfl (by decide) _ _ _ rfl (hown.alloc _) ⟨wr.heap.size, 0, none⟩ 1 1 [.string (s.extract k (k + 1))] rfl rfl (cell_one_new _ _ _) (by simp [Value.oneCell']) (by unfold maxLen; omega) (by omega) (by have := hbel.size; simp; omega) ?_; intro v' w1 hown' hgrow _))
            have R := tok_rel hbel hown hown' hgrow
            clear hown' hgrow
            go_roundw
            case rel => exact ⟨(k + 1), ts ++ [s.extract k (k + 1)], _, by omega, by go_num, rfl, HS', R.1, R.2⟩
            case measure => simp [intOf]; omega
      have hn45 : ((s[k].toNat : Int) == 45) = false := by simpa using h45
      by_cases h39 : ((s[k].toNat : Int) == 39) = true
      · as_aux_lemma =>
          go_wp2_with (first | (go_at_call 235; refine (letter_any _ _).mono ?_; rintro e w' ⟨rfl, rfl⟩; first | rw [HC.out] | rw [HCj.out]) | (go_at_call 236; refine (digit_any _ _).mono ?_; rintro e w' ⟨rfl, rfl⟩; first | rw [HD.out] | rw [HDj.out]) | (go_at_call 237; refine (signed_any _ _).mono ?_; rintro e w' ⟨rfl, rfl⟩; rw [HG.out]))
          go_loop [6] (fun i => ∃ j : Nat, k + 1 ≤ j ∧ j ≤ s.size ∧ i = .int .i64 j ∧ Hid (spanEnd notQuote s j = spanEnd notQuote s (k + 1))) (fun i => s.size - (intOf i).toNat)
          case atStart => exact ⟨k + 1, Nat.le_refl _, by omega, by go_num, rfl⟩
          case round =>
            obtain ⟨j, hj1, hj2, rfl, hE⟩ := hrel
            by_cases hjs : j < s.size
            · cases hcj : notQuote s[j]
              · have HDj := hide hcj
                have HE : Hid (spanEnd notQuote s (k + 1) = j) := hE.out.symm.trans (spanEnd_stop _ _ _ hjs hcj)
                have hq : ((s[j].toNat : Int) == 39) = true := notQuote_no hcj
                have hq2 : ((s[j].toNat : Int) != 39) = false := notQuote_no2 hcj
                clear hcj hE
                obtain ⟨kb, hkb⟩ := wordb s (k + 1) j
                have HS := hide (step_word (last := lb.data.toList) hlt h39 HE.out kb hkb)
                cases kb
                case true =>
                  have HS' : TkInv s (j + 1) (ts ++ [s.extract k (j + 1)]) (s.extract k (j + 1)) := hinv.tok hlt (by rw [HS.out, decide_eq_true hjs]; rfl)
                  clear HS
                  go_wp2_with (first | (go_at_call 235; refine (letter_any _ _).mono ?_; rintro e w' ⟨rfl, rfl⟩; first | rw [HC.out] | rw [HCj.out]) | (go_at_call 236; refine (digit_any _ _).mono ?_; rintro e w' ⟨rfl, rfl⟩; first | rw [HD.out] | rw [HDj.out]) | (go_at_call 237; refine (signed_any _ _).mono ?_; rintro e w' ⟨rfl, rfl⟩; rw [HG.out]) | (go_at_call 239; refine (word_sub hkb (by unfold maxLen; omega) _).mono ?_; rintro e w' ⟨rfl, rfl⟩) | (at_builtin; refine wpList_append_own _ rfl _ _ 41 rfl w.heap.size 9 i0 (.string ⟨#[]⟩) 1 16 Tryz.underlying41 hi hz0 hz1 hz2 rfl (by decide) _ _ _ rfl (hown.alloc _) ⟨wr.heap.size, 0, none⟩ 1 1 [.string (s.extract k (j + 1))] rfl rfl (cell_one_new _ _ _) (by simp [Value.oneCell']) (by unfold maxLen; omega) (by omega) (by have := hbel.size; simp; omega) ?_; intro v' w1 hown' hgrow _))
                  have R := tok_rel hbel hown hown' hgrow
                  clear hown' hgrow
                  go_roundw
                  case rel => exact ⟨(j + 1), ts ++ [s.extract k (j + 1)], _, by omega, by go_num, rfl, HS', R.1, R.2⟩
                  case measure => simp [intOf]; omega
                case false =>
                  have HS' : tokensOf s = none := hinv.bad hlt (by rw [HS.out, Bool.and_false]; rfl)
                  have HSS := hide HS'
                  clear HS'
                  clear HS
                  go_wp2_with (first | (go_at_call 235; refine (letter_any _ _).mono ?_; rintro e w' ⟨rfl, rfl⟩; first | rw [HC.out] | rw [HCj.out]) | (go_at_call 236; refine (digit_any _ _).mono ?_; rintro e w' ⟨rfl, rfl⟩; first | rw [HD.out] | rw [HDj.out]) | (go_at_call 237; refine (signed_any _ _).mono ?_; rintro e w' ⟨rfl, rfl⟩; rw [HG.out]) | (go_at_call 239; refine (word_sub hkb (by unfold maxLen; omega) _).mono ?_; rintro e w' ⟨rfl, rfl⟩) | (at_builtin; refine wpList_append_own _ rfl _ _ 41 rfl w.heap.size 9 i0 (.string ⟨#[]⟩) 1 16 Tryz.underlying41 hi hz0 hz1 hz2 rfl (by decide) _ _ _ rfl (hown.alloc _) ⟨wr.heap.size, 0, none⟩ 1 1 [.string (s.extract k (j + 1))] rfl rfl (cell_one_new _ _ _) (by simp [Value.oneCell']) (by unfold maxLen; omega) (by omega) (by have := hbel.size; simp; omega) ?_; intro v' w1 hown' hgrow _))
                  go_ret2
                  exact Or.inr ⟨HSS.out, rfl, hbel⟩
              · have HDj := hide hcj
                have HE : Hid (spanEnd notQuote s (j + 1) = spanEnd notQuote s (k + 1)) := (spanEnd_step _ _ _ hjs hcj).symm.trans hE.out
                have hq : ((s[j].toNat : Int) == 39) = false := notQuote_yes hcj
                have hq2 : ((s[j].toNat : Int) != 39) = true := notQuote_yes2 hcj
                clear hcj hE
                go_wp2_with fail
                go_round
                case rel => exact ⟨j + 1, by omega, by omega, by go_num, HE⟩
                case measure => simp [intOf]; omega
            · have HE : Hid (spanEnd notQuote s (k + 1) = j) := hE.out.symm.trans (spanEnd_out _ _ _ hjs)
              clear hE
              obtain ⟨kb, hkb⟩ := wordb s (k + 1) j
              have HS := hide (step_word (last := lb.data.toList) hlt h39 HE.out kb hkb)
              have HS' : tokensOf s = none := hinv.bad hlt (by rw [HS.out, decide_eq_false hjs]; rfl)
              have HSS := hide HS'
              clear HS'
              clear HS
              go_wp2_with (first | (go_at_call 235; refine (letter_any _ _).mono ?_; rintro e w' ⟨rfl, rfl⟩; first | rw [HC.out] | rw [HCj.out]) | (go_at_call 236; refine (digit_any _ _).mono ?_; rintro e w' ⟨rfl, rfl⟩; first | rw [HD.out] | rw [HDj.out]) | (go_at_call 237; refine (signed_any _ _).mono ?_; rintro e w' ⟨rfl, rfl⟩; rw [HG.out]) | (go_at_call 239; refine (word_sub hkb (by unfold maxLen; omega) _).mono ?_; rintro e w' ⟨rfl, rfl⟩) | (at_builtin; refine wpList_append_own _ rfl _ _ 41 rfl w.heap.size 9 i0 (.string ⟨#[]⟩) 1 16 Tryz.underlying41 hi hz0 hz1 hz2 rfl (by decide) _ _ _ rfl (hown.alloc _) ⟨wr.heap.size, 0, none⟩ 1 1 [.string (s.extract k (j + 1))] rfl rfl (cell_one_new _ _ _) (by simp [Value.oneCell']) (by unfold maxLen; omega) (by omega) (by have := hbel.size; simp; omega) ?_; intro v' w1 hown' hgrow _))
              go_ret2
              exact Or.inr ⟨HSS.out, rfl, hbel⟩
      have h39 : ((s[k].toNat : Int) == 39) = false := by simpa using h39
      · as_aux_lemma =>
          cases hsg : signs.contains s[k]
          · have hns := sign_no hsg
            obtain ⟨n1, n2, n3, n4, n5, n6, n7, n8, n9, n10⟩ := hns
            have HS := hide (step_sign (last := lb.data.toList) hlt h32 HC.out HMM.out h39)
            rw [hsg] at HS
            clear hsg
            have HS' : tokensOf s = none := hinv.bad hlt (by rw [HS.out]; rfl)
            have HSS := hide HS'
            clear HS'
            clear HS
            go_wp2_with (first | (go_at_call 235; refine (letter_any _ _).mono ?_; rintro e w' ⟨rfl, rfl⟩; first | rw [HC.out] | rw [HCj.out]) | (go_at_call 236; refine (digit_any _ _).mono ?_; rintro e w' ⟨rfl, rfl⟩; first | rw [HD.out] | rw [HDj.out]) | (go_at_call 237; refine (signed_any _ _).mono ?_; rintro e w' ⟨rfl, rfl⟩; rw [HG.out]) | (at_builtin; refine wpList_append_own _ rfl _ _ 41 rfl w.heap.size 9 i0 (.string ⟨#[]⟩) 1 16 Tryz.underlying41 hi hz0 hz1 hz2 rfl (by decide) _ _ _ rfl (hown.alloc _) ⟨wr.heap.size, 0, none⟩ 1 1 [.string (s.extract k (k + 1))] rfl rfl (cell_one_new _ _ _) (by simp [Value.oneCell']) (by unfold maxLen; omega) (by omega) (by have := hbel.size; simp; omega) ?_; intro v' w1 hown' hgrow _))
            go_ret2
            exact Or.inr ⟨HSS.out, rfl, hbel⟩
          · have hys := sign_yes hsg
            have HS := hide (step_sign (last := lb.data.toList) hlt h32 HC.out HMM.out h39)
            rw [hsg] at HS
            clear hsg
            have HY := hide hys
            clear hys
            go_upto_region 13 with (first | (go_at_call 235; refine (letter_any _ _).mono ?_; rintro e w' ⟨rfl, rfl⟩; first | rw [HC.out] | rw [HCj.out]) | (go_at_call 236; refine (digit_any _ _).mono ?_; rintro e w' ⟨rfl, rfl⟩; first | rw [HD.out] | rw [HDj.out]) | (go_at_call 237; refine (signed_any _ _).mono ?_; rintro e w' ⟨rfl, rfl⟩; rw [HG.out]))
            rcases HY.out with h | h | h | h | h | h | h | h | h | h
            all_goals
              have HS' : TkInv s (k + 1) (ts ++ [s.extract k (k + 1)]) (s.extract k (k + 1)) := hinv.tok hlt (by rw [HS.out]; rfl)
              clear HS HY
              go_wp2_with (first | (go_at_call 235; refine (letter_any _ _).mono ?_; rintro e w' ⟨rfl, rfl⟩; first | rw [HC.out] | rw [HCj.out]) | (go_at_call 236; refine (digit_any _ _).mono ?_; rintro e w' ⟨rfl, rfl⟩; first | rw [HD.out] | rw [HDj.out]) | (go_at_call 237; refine (signed_any _ _).mono ?_; rintro e w' ⟨rfl, rfl⟩; rw [HG.out]) | (at_builtin; refine wpList_append_own _ rfl _ _ 41 rfl w.heap.size 9 i0 (.string ⟨#[]⟩) 1 16 Tryz.underlying41 hi hz0 hz1 hz2 rfl (by decide) _ _ _ rfl (hown.alloc _) ⟨wr.heap.size, 0, none⟩ 1 1 [.string (s.extract k (k + 1))] rfl rfl (cell_one_new _ _ _) (by simp [Value.oneCell']) (by unfold maxLen; omega) (by omega) (by have := hbel.size; simp; omega) ?_; intro v' w1 hown' hgrow _))
              have R := tok_rel hbel hown hown' hgrow
              clear hown' hgrow
              go_roundw
              case rel => exact ⟨(k + 1), ts ++ [s.extract k (k + 1)], _, by omega, by go_num, rfl, HS', R.1, R.2⟩
              case measure => simp [intOf]; omega
    · have HD := hinv.done hlt
      go_wp2_with fail
      go_ret2
      exact Or.inl ⟨_, ts, HD, by omega, rfl, hown, hbel⟩
end Go.Proofs.YtbkeflgafjnefaaGreatDoor
