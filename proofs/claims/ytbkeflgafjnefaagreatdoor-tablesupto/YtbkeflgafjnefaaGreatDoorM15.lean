/- Towards the law of tables: P12, P13, P14, Q1, Q2, Q3, Q4, Q5, Q6. -/
import Derived.Test.YtbkeflgafjnefaaGreatDoorM12
import Derived.Test.YtbkeflgafjnefaaGreatDoorM09
namespace Go.Proofs.YtbkeflgafjnefaaGreatDoor
open Go.RowKit
open Trib
theorem Sc.of {lo : Nat} {w : World} {b : Nat} {s : ByteArray} {k n : Nat} {v : Value} {xs : List Value} (W : World) (hW : W.heap = w.heap) (h : ScIs w b s k v) (hrow : w.ownsRow lo 154 2 v n xs) : ScIs W b s k v ∧ W.ownsRow lo 154 2 v n xs :=
  ⟨by unfold ScIs at h ⊢; rw [hW]; exact h, by unfold World.ownsRow at hrow ⊢; rw [hW]; exact hrow⟩
theorem addSign_at (lo b : Nat) (s : ByteArray) (k : Nat) (c : UInt8) (v : Value) (n : Nat) (xs : List Value) (w W : World) (hW : W.heap = w.heap) (h : ScIs w b s k v) (hrow : w.ownsRow lo 154 2 v n xs) (hlo : lo ≤ b) (hn : n ≤ 1000000) (hs : s.size ≤ 1000000) (hk : k < s.size) (hc : signs.contains c = true) :
    Calls Tryz.prog 186 #[.pointer (some ⟨b, 0, none⟩), .int .u8 (c.toNat : Int)] W (Tok1 lo W b s (k + 1) n xs ((4 + signs.idxOf c : Nat) : Int) k true) := by
  obtain ⟨h1, h2⟩ := Sc.of W hW h hrow
  refine (addSign_yes lo b s k c v n xs W h1 h2 hlo hn hs hk hc).mono ?_
  rintro x w' ⟨a, b, c⟩
  exact ⟨a, b, c⟩
set_option maxHeartbeats 4000000 in
theorem scan_sign (lo b : Nat) (s : ByteArray) (k : Nat) (v : Value) (ts : List ByteArray) (w : World) (h : ScIs w b s k v) (hrow : w.ownsRow lo 154 2 v ts.length (tokCells ts)) (hlo : lo ≤ b) (hn : ts.length ≤ 1000000) (hs : s.size ≤ 1000000) (hk : k < s.size) (hl : isLet s[k] = false) (hd : isDig s[k] = false) (hq : (s[k] == 39) = false) (hm : s[k] = 45 → minusB s k (lastK ts) = false) (hsg : signs.contains s[k] = true) :
    Calls Tryz.prog 129 #[.pointer (some ⟨b, 0, none⟩)] w (Tok1 lo w b s (k + 1) ts.length (tokCells ts) ((4 + signs.idxOf s[k] : Nat) : Int) k true) := by
  obtain ⟨c0, c1, c2⟩ := h.cells
  have hk' : (k : Int) < (s.size : Int) := by omega
  have HL := hide hl
  have HD := hide hd
  have hcq : ((s[k].toNat : Int) == 39) = false := by
    rw [beq_eq_false_iff_ne] at hq ⊢
    intro e
    exact hq (by rw [← UInt8.toNat_inj]; simpa using (by omega : s[k].toNat = 39))
  clear hl hd hq
  by_cases hc : s[k] = 45
  · have HM := hide (hm hc)
    have hcb : ((s[k].toNat : Int) == 45) = true := by rw [hc]; decide
    clear hm hc
    go_enter Tryz.func129, Tryz.ntmps129
    go_wp2_with fail
    go_quiet (fail)
    have hbW := below_drewN lo w nq
    have hrowW : (w.drewN nq).ownsRow lo 154 2 v ts.length (tokCells ts) := hrow
    have hW : ScIs (w.drewN nq) b s k v := h
    generalize w.drewN nq = W at *
    obtain ⟨d0, d1, d2⟩ := hW.cells
    go_wp2_with (first | (go_at_call 85; refine (IsLetter_any _ _).mono ?_; rintro e w' ⟨rfl, rfl⟩; rw [HL.out]) | (go_at_call 86; refine (IsDigit_any _ _).mono ?_; rintro e w' ⟨rfl, rfl⟩; rw [HD.out]) | (go_at_call 184; refine (isNumbersMinus_any lo b s k v ts _ hW hrowW hn hs hk).mono ?_; rintro e w' ⟨rfl, q, rfl⟩; rw [HM.out]) | (go_at_call 186; refine (addSign_at lo b s k s[k] v ts.length (tokCells ts) W _ (by rfl) hW hrowW hlo hn hs hk hsg).mono ?_; rintro e3 w3 ⟨rfl, hsc3, hb3⟩))
    go_ret
    exact ⟨rfl, hsc3, hbW.trans (Below.trans (by first | exact Below.refl _ _ | exact below_drewN _ _ _) hb3)⟩
  · have hcb : ((s[k].toNat : Int) == 45) = false := by
      rw [beq_eq_false_iff_ne]
      intro e
      exact hc (by rw [← UInt8.toNat_inj]; simpa using (by omega : s[k].toNat = 45))
    clear hm hc
    go_enter Tryz.func129, Tryz.ntmps129
    go_wp2_with fail
    go_quiet (fail)
    have hbW := below_drewN lo w nq
    have hrowW : (w.drewN nq).ownsRow lo 154 2 v ts.length (tokCells ts) := hrow
    have hW : ScIs (w.drewN nq) b s k v := h
    generalize w.drewN nq = W at *
    obtain ⟨d0, d1, d2⟩ := hW.cells
    go_wp2_with (first | (go_at_call 85; refine (IsLetter_any _ _).mono ?_; rintro e w' ⟨rfl, rfl⟩; rw [HL.out]) | (go_at_call 86; refine (IsDigit_any _ _).mono ?_; rintro e w' ⟨rfl, rfl⟩; rw [HD.out]) | (go_at_call 186; refine (addSign_at lo b s k s[k] v ts.length (tokCells ts) W _ (by rfl) hW hrowW hlo hn hs hk hsg).mono ?_; rintro e3 w3 ⟨rfl, hsc3, hb3⟩))
    go_ret
    exact ⟨rfl, hsc3, hbW.trans (Below.trans (by first | exact Below.refl _ _ | exact below_drewN _ _ _) hb3)⟩
set_option maxHeartbeats 4000000 in
theorem scan_none (lo b : Nat) (s : ByteArray) (k : Nat) (v : Value) (ts : List ByteArray) (w : World) (h : ScIs w b s k v) (hrow : w.ownsRow lo 154 2 v ts.length (tokCells ts)) (_hlo : lo ≤ b) (hn : ts.length ≤ 1000000) (hs : s.size ≤ 1000000) (hk : k < s.size) (hl : isLet s[k] = false) (hd : isDig s[k] = false) (hq : (s[k] == 39) = false) (hm : s[k] = 45 → minusB s k (lastK ts) = false) (hsg : signs.contains s[k] = false) :
    Calls Tryz.prog 129 #[.pointer (some ⟨b, 0, none⟩)] w (fun x w' => x = .returned (.bool false) ∧ Below lo w w') := by
  obtain ⟨c0, c1, c2⟩ := h.cells
  have hk' : (k : Int) < (s.size : Int) := by omega
  have HL := hide hl
  have HD := hide hd
  have hcq : ((s[k].toNat : Int) == 39) = false := by
    rw [beq_eq_false_iff_ne] at hq ⊢
    intro e
    exact hq (by rw [← UInt8.toNat_inj]; simpa using (by omega : s[k].toNat = 39))
  clear hl hd hq
  by_cases hc : s[k] = 45
  · have HM := hide (hm hc)
    have hcb : ((s[k].toNat : Int) == 45) = true := by rw [hc]; decide
    clear hm hc
    go_enter Tryz.func129, Tryz.ntmps129
    go_wp2_with fail
    go_quiet (fail)
    have hbW := below_drewN lo w nq
    have hrowW : (w.drewN nq).ownsRow lo 154 2 v ts.length (tokCells ts) := hrow
    have hW : ScIs (w.drewN nq) b s k v := h
    generalize w.drewN nq = W at *
    obtain ⟨d0, d1, d2⟩ := hW.cells
    go_wp2_with (first | (go_at_call 85; refine (IsLetter_any _ _).mono ?_; rintro e w' ⟨rfl, rfl⟩; rw [HL.out]) | (go_at_call 86; refine (IsDigit_any _ _).mono ?_; rintro e w' ⟨rfl, rfl⟩; rw [HD.out]) | (go_at_call 184; refine (isNumbersMinus_any lo b s k v ts _ hW hrowW hn hs hk).mono ?_; rintro e w' ⟨rfl, q, rfl⟩; rw [HM.out]) | (go_at_call 186; refine (addSign_no b s[k] _ hsg).mono ?_; rintro e3 w3 ⟨rfl, rfl⟩))
    go_ret
    exact ⟨rfl, hbW.trans (by first | exact Below.refl _ _ | exact below_drewN _ _ _)⟩
  · have hcb : ((s[k].toNat : Int) == 45) = false := by
      rw [beq_eq_false_iff_ne]
      intro e
      exact hc (by rw [← UInt8.toNat_inj]; simpa using (by omega : s[k].toNat = 45))
    clear hm hc
    go_enter Tryz.func129, Tryz.ntmps129
    go_wp2_with fail
    go_quiet (fail)
    have hbW := below_drewN lo w nq
    have hrowW : (w.drewN nq).ownsRow lo 154 2 v ts.length (tokCells ts) := hrow
    have hW : ScIs (w.drewN nq) b s k v := h
    generalize w.drewN nq = W at *
    obtain ⟨d0, d1, d2⟩ := hW.cells
    go_wp2_with (first | (go_at_call 85; refine (IsLetter_any _ _).mono ?_; rintro e w' ⟨rfl, rfl⟩; rw [HL.out]) | (go_at_call 86; refine (IsDigit_any _ _).mono ?_; rintro e w' ⟨rfl, rfl⟩; rw [HD.out]) | (go_at_call 186; refine (addSign_no b s[k] _ hsg).mono ?_; rintro e3 w3 ⟨rfl, rfl⟩))
    go_ret
    exact ⟨rfl, hbW.trans (by first | exact Below.refl _ _ | exact below_drewN _ _ _)⟩
end Go.Proofs.YtbkeflgafjnefaaGreatDoor
namespace Go.Proofs.YtbkeflgafjnefaaGreatDoor
open Go.RowKit
open Trib
/-- The last token's bytes; none: empty. -/
def lastT (ts : List ByteArray) : List UInt8 := (ts.getLast?.getD ⟨#[]⟩).data.toList
theorem lastK_kind (ts : List ByteArray) : lastK ts = kindOf (lastT ts) := by
  unfold lastK lastT kd
  cases ts.getLast? with
  | none => rfl
  | some t => rfl
def Kinded (ts : List ByteArray) : Prop := ∀ t ∈ ts, kd t ≠ 0
theorem lastT_ok {ts : List ByteArray} (h : Kinded ts) : lastT ts = [] ∨ kindOf (lastT ts) ≠ 0 := by
  unfold lastT
  cases hl : ts.getLast? with
  | none => exact Or.inl rfl
  | some t => exact Or.inr (h t (List.mem_of_getLast? hl))
theorem minus_same {ts : List ByteArray} (h : Kinded ts) {s : ByteArray} {k : Nat} (hk : k < s.size) (hc : s[k] = 45) : isMinus s k (lastT ts) = minusB s k (lastK ts) := by
  unfold isMinus minusB
  rw [getBang s k hk, hc, signed_kind _ (lastT_ok h), lastK_kind]
  cases signedK (kindOf (lastT ts)) <;> cases decide (k + 1 < s.size) <;> cases isDig s[k + 1]! <;> rfl
theorem minus_not {last : List UInt8} {s : ByteArray} {k : Nat} (hk : k < s.size) (hc : s[k] ≠ 45) : isMinus s k last = false := by
  unfold isMinus
  rw [getBang s k hk]
  have : (s[k] == 45) = false := by simpa using hc
  rw [this]; rfl
/-- What the scanner's step leaves. -/
def StepPost (lo : Nat) (w : World) (b : Nat) (s : ByteArray) (ts : List ByteArray) (o : Option (Option (List UInt8) × Nat)) (x : Ending) (w' : World) : Prop :=
  (∃ t k', o = some (some t.data.toList, k') ∧ x = .returned (.bool true) ∧ Sc lo w' b s k' (ts.length + 1) (tokCells (ts ++ [t])) ∧ kd t ≠ 0 ∧ Below lo w w') ∨
  (o = none ∧ x = .returned (.bool false) ∧ Below lo w w')
theorem tok1_post {lo : Nat} {w : World} {b : Nat} {s : ByteArray} {E k : Nat} {ts : List ByteArray} {kn : Int} {ok : Bool} {x : Ending} {w' : World} {o : Option (Option (List UInt8) × Nat)} (h : Tok1 lo w b s E ts.length (tokCells ts) kn k ok x w')
    (ho : o = if ok = true then some (some (sub s k E), E) else none) (hk : ok = true → (kindOf (sub s k E) : Int) = kn ∧ kn ≠ 0) : StepPost lo w b s ts o x w' := by
  obtain ⟨h1, h2, h3⟩ := h
  cases ok
  · exact Or.inr ⟨ho, h1, h3⟩
  · obtain ⟨k1, k2⟩ := hk rfl
    refine Or.inl ⟨s.extract k E, E, ho, h1, ?_, ?_, h3⟩
    · rw [tokCells_snoc]
      have : (kd (s.extract k E) : Int) = kn := k1
      rw [this]; exact h2
    · intro e
      have : (kd (s.extract k E) : Int) = kn := k1
      rw [e] at this
      exact k2 this.symm
theorem scanToken_any (lo b : Nat) (s : ByteArray) (k : Nat) (v : Value) (ts : List ByteArray) (w : World) (h : ScIs w b s k v) (hrow : w.ownsRow lo 154 2 v ts.length (tokCells ts)) (hg : Glob w) (hlo : lo ≤ b) (hn : ts.length ≤ 1000000) (hs : s.size ≤ 1000000) (hk : k < s.size) (hb : (s[k] == 32) = false) (hkd : Kinded ts) :
    Calls Tryz.prog 129 #[.pointer (some ⟨b, 0, none⟩)] w (StepPost lo w b s ts (tkStep s k (lastT ts))) := by
  by_cases hl : isLet s[k] = true
  · obtain ⟨e1, e2⟩ := step_let (last := lastT ts) hk hl
    refine (scan_letters lo b s k v ts.length (tokCells ts) w h hrow hg hlo hn hs hk hl).mono fun x w' hx => tok1_post hx ?_ ?_
    · rw [e1]
      by_cases hz : kindL (sub s k (spanEnd isLet s k)) = 0
      · rw [if_pos hz, if_neg (by rw [hz]; decide)]
      · rw [if_neg hz, if_pos (by rw [bne_iff_ne]; omega)]
    · intro hx
      have hz : kindL (sub s k (spanEnd isLet s k)) ≠ 0 := by
        intro e; rw [e] at hx; revert hx; decide
      exact ⟨by rw [e2 hz], by omega⟩
  have hl' : isLet s[k] = false := by cases e : isLet s[k] <;> simp_all
  by_cases hd : isDig s[k] = true
  · obtain ⟨e1, e2⟩ := step_num (last := lastT ts) hk (Or.inl hd)
    refine (scan_digits lo b s k v ts.length (tokCells ts) w h hrow hlo hn hs hk hl' hd).mono fun x w' hx => tok1_post hx e1 fun e => ⟨by rw [e2 e]; rfl, by decide⟩
  have hd' : isDig s[k] = false := by cases e : isDig s[k] <;> simp_all
  by_cases hq : s[k] = 39
  · obtain ⟨e1, e2⟩ := step_word (last := lastT ts) hk hq
    refine (scan_word lo b s k v ts.length (tokCells ts) w h hrow hlo hn hs hk hq).mono fun x w' hx => tok1_post hx e1 fun _ => ⟨by rw [e2]; rfl, by decide⟩
  have hq' : (s[k] == 39) = false := by simpa using hq
  have sign : isMinus s k (lastT ts) = false → (s[k] = 45 → minusB s k (lastK ts) = false) → Calls Tryz.prog 129 #[.pointer (some ⟨b, 0, none⟩)] w (StepPost lo w b s ts (tkStep s k (lastT ts))) := by
    intro hm1 hm2
    obtain ⟨e1, e2⟩ := step_sign (last := lastT ts) hk hb hl' hd' hm1 hq'
    by_cases hsg : signs.contains s[k] = true
    · refine (scan_sign lo b s k v ts w h hrow hlo hn hs hk hl' hd' hq' hm2 hsg).mono fun x w' hx => tok1_post hx ?_ fun _ => ⟨by rw [e2 hsg], by omega⟩
      rw [e1, if_pos hsg, if_pos rfl]
    · have hsg' : signs.contains s[k] = false := by cases e : signs.contains s[k] <;> simp_all
      refine (scan_none lo b s k v ts w h hrow hlo hn hs hk hl' hd' hq' hm2 hsg').mono fun x w' hx => Or.inr ⟨?_, hx.1, hx.2⟩
      rw [e1, if_neg hsg]
  by_cases hc : s[k] = 45
  · by_cases hm : minusB s k (lastK ts) = true
    · obtain ⟨e1, e2⟩ := step_num (last := lastT ts) hk (Or.inr (by rw [minus_same hkd hk hc]; exact hm))
      refine (scan_minus lo b s k v ts w h hrow hlo hn hs hk hc hm).mono fun x w' hx => tok1_post hx e1 fun e => ⟨by rw [e2 e]; rfl, by decide⟩
    · have hm' : minusB s k (lastK ts) = false := by cases e : minusB s k (lastK ts) <;> simp_all
      exact sign (by rw [minus_same hkd hk hc]; exact hm') (fun _ => hm')
  · exact sign (minus_not hk hc) (fun e => absurd e hc)
end Go.Proofs.YtbkeflgafjnefaaGreatDoor
namespace Go.Proofs.YtbkeflgafjnefaaGreatDoor
open Go.RowKit
open Trib
def lastB (ts : List ByteArray) : ByteArray := ts.getLast?.getD ⟨#[]⟩
theorem lastB_snoc (ts : List ByteArray) (t : ByteArray) : lastB (ts ++ [t]) = t := by simp [lastB]
theorem TkInv.skip {s : ByteArray} {ts : List ByteArray} {last : ByteArray} : ∀ (n k : Nat), s.size - k = n → k ≤ s.size → TkInv s k ts last → TkInv s (spanEnd isBlank s k) ts last := by
  intro n
  induction n with
  | zero =>
    intro k hn hk h
    rw [spanEnd_out _ _ _ (by omega)]; exact h
  | succ n ih =>
    intro k hn hk h
    have hlt : k < s.size := by omega
    cases hb : isBlank s[k]
    · rw [spanEnd_stop _ _ _ hlt hb]; exact h
    · rw [spanEnd_step _ _ _ hlt hb]
      refine ih (k + 1) (by omega) hlt (h.blank hlt ?_)
      unfold tkStep
      have : (s[k] == 32) = true := hb
      rw [getBang s k hlt, this]; rfl
theorem blank_stop (s : ByteArray) (k : Nat) (hk : k ≤ s.size) (h : spanEnd isBlank s k < s.size) : (s[spanEnd isBlank s k] == 32) = false := spanEnd_at h hk
/-- What Scan answers. -/
def ScanPost (s : ByteArray) (w : World) (e : Ending) (w' : World) : Prop :=
  (∃ (v : Value) (ts : List ByteArray), tokensOf s = some (ts.map (·.data.toList)) ∧ Kinded ts ∧ ts.length ≤ s.size ∧ e = .returned (.tuple #[v, .bool true]) ∧ w'.ownsRow w.heap.size 154 2 v ts.length (tokCells ts) ∧ Below w.heap.size w w') ∨
  (tokensOf s = none ∧ e = .returned (.tuple #[.slice none 0 0, .bool false]) ∧ Below w.heap.size w w')
/-- The scanner between two tokens. -/
def Mid (w : World) (s : ByteArray) (wr : World) (k : Nat) (ts : List ByteArray) : Prop :=
  (∃ v, ScIs wr w.heap.size s k v ∧ wr.ownsRow w.heap.size 154 2 v ts.length (tokCells ts)) ∧ Below w.heap.size w wr ∧ TkInv s k ts (lastB ts) ∧ Kinded ts ∧ k ≤ s.size
theorem Mid.len {w : World} {s : ByteArray} {wr : World} {k : Nat} {ts : List ByteArray} (h : Mid w s wr k ts) : ts.length ≤ s.size := Nat.le_trans h.2.2.1.1 h.2.2.2.2
theorem tkStep_le {s : ByteArray} {k : Nat} {last : List UInt8} {x : Option (List UInt8) × Nat} (hk : k < s.size) (h : tkStep s k last = some x) : k < x.2 ∧ x.2 ≤ s.size := tkStep_lt hk h
theorem Mid.skip {w : World} {s : ByteArray} {wr w' : World} {k : Nat} {ts : List ByteArray} {v : Value} (hrow : wr.ownsRow w.heap.size 154 2 v ts.length (tokCells ts)) (hb : Below w.heap.size w wr) (hi : TkInv s k ts (lastB ts)) (hkd : Kinded ts) (hk : k ≤ s.size) (hsc : ScIs wr w.heap.size s k v)
    (h1 : ScIs w' w.heap.size s (spanEnd isBlank s k) v) (h2 : wr.grownBy w' (some w.heap.size)) : Mid w s w' (spanEnd isBlank s k) ts := by
  refine ⟨⟨v, h1, hrow.kept h2 ?_⟩, hb.grown h2 (by have := hb.size; omega) (fun k e => by cases e; exact Nat.le_refl _), hi.skip _ _ rfl hk, hkd, spanEnd_le _ _ _ hk⟩
  rcases hrow.2 with ⟨rfl, _⟩ | ⟨g, cap, cur, rfl, _, hgb, _⟩
  · exact Or.inl rfl
  · refine Or.inr fun e => ?_
    obtain rfl : g = w.heap.size := by simpa [Value.ownBlock] using e
    have := (show wr.heap[w.heap.size]? = _ from hsc).symm.trans hgb
    simp at this
set_option maxHeartbeats 4000000 in
theorem Scan_any (s : ByteArray) (w : World) (hs : s.size ≤ 1000000) (hg : Glob w) : Calls Tryz.prog 76 #[.string s] w (ScanPost s w) := by
  have h0 : ScIs (w.alloc (.cells #[.string s, .int .i64 0, .slice none 0 0] 241)) w.heap.size s 0 (.slice none 0 0) := heap_alloc_new w _
  have hb0 : Below w.heap.size w (w.alloc (.cells #[.string s, .int .i64 0, .slice none 0 0] 241)) := (Below.refl _ _).alloc (Nat.le_refl _) _
  have hbig := hg.big
  go_enter Tryz.func76, Tryz.ntmps76
  go_wp2_with (go_at_call 128; refine (skipBlanks_any w.heap.size s 0 (.slice none 0 0) _ h0 hs (Nat.zero_le _)).mono ?_; rintro e w1 ⟨rfl, hsc1, hgr1⟩; have hm1 : Mid w s w1 (spanEnd isBlank s 0) [] := Mid.skip (World.ownsRow_nil _ _ _ _) hb0 (TkInv.start s) (fun _ h => by cases h) (Nat.zero_le _) h0 hsc1 hgr1)
  go_loopg [] (s.size + 1) (fun n wr => ∃ (k : Nat) (ts : List ByteArray), Mid w s wr k ts ∧ (∀ h : k < s.size, (s[k] == 32) = false) ∧ s.size - k < n)
  case atStart => exact ⟨_, [], hm1, fun h => blank_stop s 0 (Nat.zero_le _) h, by omega⟩
  case round =>
    clear hm1 hsc1 hgr1
    obtain ⟨k, ts, hm, hnb, hn⟩ := hrel
    have hlen := hm.len
    obtain ⟨⟨v, hsc, hrow⟩, hb, hi, hkd, hk⟩ := hm
    obtain ⟨c0, c1, c2⟩ := hsc.cells
    by_cases hlt : k < s.size
    · have hlt' : (k : Int) < (s.size : Int) := by omega
      have hstep := scanToken_any w.heap.size w.heap.size s k v ts wr hsc hrow (hg.below hb hbig) (Nat.le_refl _) (by omega) hs hlt (hnb hlt) hkd
      have HN := hide hn
      clear hn
      go_wp2_with fail
      refine hstep.mono ?_
      rintro e w2 (⟨t, k', ho, rfl, ⟨_, v2, hsc2, hrow2⟩, hk2, hb2⟩ | ⟨ho, rfl, hb2⟩)
      · have hkk := tkStep_le hlt ho
        simp only at hkk
        have hi2 : TkInv s k' (ts ++ [t]) (lastB (ts ++ [t])) := by rw [lastB_snoc]; exact hi.tok hlt ho
        have hkd2 : Kinded (ts ++ [t]) := fun x hx => by
          rcases List.mem_append.1 hx with h | h
          · exact hkd x h
          · rw [List.mem_singleton.1 h]; exact hk2
        have hrow2' : w2.ownsRow w.heap.size 154 2 v2 (ts ++ [t]).length (tokCells (ts ++ [t])) := by rw [List.length_append]; exact hrow2
        clear c0 c1 c2 hrow2
        go_wp2_with (go_at_call 128; refine (skipBlanks_any w.heap.size s k' v2 _ hsc2 hs hkk.2).mono ?_; rintro e w3 ⟨rfl, hsc3, hgr3⟩; have hm3 : Mid w s w3 (spanEnd isBlank s k') (ts ++ [t]) := Mid.skip hrow2' (hb.trans hb2) hi2 hkd2 hkk.2 hsc2 hsc3 hgr3)
        have hn := HN.out
        have hge := spanEnd_ge isBlank s k'
        go_roundg (gk - 1)
        case measure => omega
        case rel => exact ⟨_, _, hm3, fun h => blank_stop s k' hkk.2 h, by omega⟩
      · go_wp2_with fail
        go_ret2
        exact Or.inr ⟨hi.bad hlt ho, rfl, hb.trans hb2⟩
    · have hlt' : (s.size : Int) ≤ (k : Int) := by omega
      clear hn
      go_wp2_with fail
      go_ret2
      exact Or.inl ⟨v, ts, hi.done hlt, hkd, hlen, rfl, hrow, hb⟩
end Go.Proofs.YtbkeflgafjnefaaGreatDoor
namespace Go.Proofs.YtbkeflgafjnefaaGreatDoor
open Go.RowKit
open Trib
/-- The reader in block b: its tokens, how far they are read, whether it has failed. -/
def RdIs (w : World) (b : Nat) (v : Value) (p : Nat) (bad : Bool) : Prop :=
  w.heap[b]? = some (.cells #[v, .int .i64 (p : Int), .bool bad] 243 (0, 0))
theorem RdIs.lt {w : World} {b : Nat} {v : Value} {p : Nat} {bad : Bool} (h : RdIs w b v p bad) : b < w.heap.size := (Array.getElem?_eq_some_iff.1 h).1
theorem RdIs.cells {w : World} {b : Nat} {v : Value} {p : Nat} {bad : Bool} (h : RdIs w b v p bad) :
    w.cell? ⟨b, 0, none⟩ = some v ∧ w.cell? ⟨b, 1, none⟩ = some (.int .i64 (p : Int)) ∧ w.cell? ⟨b, 2, none⟩ = some (.bool bad) := by
  rw [RdIs] at h
  simp [World.cell?, h]
theorem RdIs.free {w : World} {b : Nat} {v : Value} {p : Nat} {bad : Bool} (h : RdIs w b v p bad) (o : Nat) : w.frozen? ⟨b, o, none⟩ = false := by
  rw [RdIs] at h
  simp [World.frozen?, h]
theorem RdIs.set1 {w : World} {b : Nat} {v : Value} {p : Nat} {bad : Bool} (h : RdIs w b v p bad) (q : Nat) : RdIs (w.setCell ⟨b, 1, none⟩ (.int .i64 (q : Int))) b v q bad := heap_setCell h _
theorem RdIs.set2 {w : World} {b : Nat} {v : Value} {p : Nat} {bad : Bool} (h : RdIs w b v p bad) (q : Bool) : RdIs (w.setCell ⟨b, 2, none⟩ (.bool q)) b v p q := heap_setCell h _
theorem RdIs.alloc {w : World} {b : Nat} {v : Value} {p : Nat} {bad : Bool} (h : RdIs w b v p bad) (o : Obj) : RdIs (w.alloc o) b v p bad := (Below.heap_alloc w o b h.lt).trans h
/-- Where the reading stands: what is left of the tokens; none: it has failed. -/
def Rd (w : World) (b : Nat) (v : Value) (ts : List ByteArray) (c : Option (List ByteArray)) : Prop :=
  ∃ p bad, RdIs w b v p bad ∧ w.ownsRow 0 154 2 v ts.length (tokCells ts) ∧ p ≤ ts.length ∧ (bad = true → p = ts.length) ∧ c = if bad then none else some (ts.drop p)
theorem Rd.lt {w : World} {b : Nat} {v : Value} {ts : List ByteArray} {c : Option (List ByteArray)} (h : Rd w b v ts c) : b < w.heap.size := by
  obtain ⟨p, bad, h, _⟩ := h; exact h.lt
theorem row_apart {w : World} {b base : Nat} {cs : Array Value} {t e : TypeId} {size n : Nat} {v : Value} {xs : List Value} (h : w.heap[b]? = some (.cells cs t (0, 0))) (hrow : w.ownsRow base e size v n xs) (hte : t ≠ e) : v.ownBlock = none ∨ v.ownBlock ≠ some b := by
  rcases hrow.2 with ⟨rfl, _⟩ | ⟨g, cap, cur, rfl, _, hgb, _⟩
  · exact Or.inl rfl
  · refine Or.inr fun e' => ?_
    obtain rfl : g = b := by simpa [Value.ownBlock] using e'
    have := h.symm.trans hgb
    simp at this
    exact hte this.2
/-- The reading's rows outlast what turns the reader alone. -/
theorem rd_row {w w' : World} {b p n : Nat} {v : Value} {bad : Bool} {xs : List Value} (h : RdIs w b v p bad) (hrow : w.ownsRow 0 154 2 v n xs) (hg : w.grownBy w' (some b)) : w'.ownsRow 0 154 2 v n xs :=
  hrow.kept hg (row_apart h hrow (by decide))
theorem Rd.alloc {w : World} {b : Nat} {v : Value} {ts : List ByteArray} {c : Option (List ByteArray)} (h : Rd w b v ts c) (o : Obj) : Rd (w.alloc o) b v ts c := by
  obtain ⟨p, bad, h1, h2, h3⟩ := h
  exact ⟨p, bad, h1.alloc o, h2.alloc o, h3⟩
theorem Rd.below {w w' : World} {b : Nat} {v : Value} {ts : List ByteArray} {c : Option (List ByteArray)} (h : Rd w b v ts c) (hb : Below w.heap.size w w') : Rd w' b v ts c := by
  obtain ⟨p, bad, h1, h2, h3⟩ := h
  exact ⟨p, bad, (hb.block b h1.lt).trans h1, row_below h2 hb, h3⟩
theorem Rd.set {w : World} {b c0 o : Nat} {v : Value} {ts : List ByteArray} {c : Option (List ByteArray)} (h : Rd w b v ts c) (x : Value) {cs : Array Value} {t : TypeId} (hc : w.heap[c0]? = some (.cells cs t (0, 0))) (ht : t ≠ 243) (ht2 : t ≠ 154) : Rd (w.setCell ⟨c0, o, none⟩ x) b v ts c := by
  obtain ⟨p, bad, h1, h2, h3⟩ := h
  refine ⟨p, bad, (Below.heap_setCell _ _ _ b ?_).trans h1, row_setP h2 hc ht2, h3⟩
  rintro rfl
  have := (show w.heap[b]? = _ from h1).symm.trans hc
  simp at this
  exact ht this.2.symm
theorem Rd.drewN {w : World} {b : Nat} {v : Value} {ts : List ByteArray} {c : Option (List ByteArray)} (h : Rd w b v ts c) (n : Nat) : Rd (w.drewN n) b v ts c := h
/-- The next token's kind. -/
def hkc (c : Option (List ByteArray)) : Nat := hk (c.getD [])
/-- The token that is taken, and what is left. -/
def headTok : Option (List ByteArray) → Nat × ByteArray
  | some (t :: _) => (kd t, t)
  | _ => (0, ⟨#[]⟩)
def tailc : Option (List ByteArray) → Option (List ByteArray)
  | some (_ :: r) => some r
  | c => c
def tokV (t : Nat × ByteArray) : Value := .agg #[.int .i64 (t.1 : Int), .string t.2]
theorem tokCells_at (ts : List ByteArray) (p : Nat) (h : p < ts.length) : (tokCells ts)[p * 2]? = some (.int .i64 (kd ts[p] : Int)) ∧ (tokCells ts)[p * 2 + 1]? = some (.string ts[p]) := by
  induction ts generalizing p with
  | nil => exact absurd h (Nat.not_lt_zero _)
  | cons a r ih =>
    have e : tokCells (a :: r) = [.int .i64 (kd a : Int), .string a] ++ tokCells r := by simp [tokCells]
    rw [e]
    cases p with
    | zero => exact ⟨rfl, rfl⟩
    | succ p =>
      have := ih p (by simpa using h)
      rw [List.getElem?_append_right (by simp; omega), List.getElem?_append_right (by simp; omega)]
      have e1 : (p + 1) * 2 - [Value.int IntKind.i64 (kd a : Int), Value.string a].length = p * 2 := by simp; omega
      have e2 : (p + 1) * 2 + 1 - [Value.int IntKind.i64 (kd a : Int), Value.string a].length = p * 2 + 1 := by simp; omega
      rw [e1, e2]; simpa using this
/-- The cells of the next token. -/
theorem rd_cells {w : World} {ts : List ByteArray} {v : Value} (h : w.ownsRow 0 154 2 v ts.length (tokCells ts)) (p : Nat) (hp : p < ts.length) :
    ∃ g cap, v = .slice (some ⟨g, 0, none⟩) ts.length cap ∧ w.cell? ⟨g, p * 2, none⟩ = some (.int .i64 (kd ts[p] : Int)) ∧ w.cell? ⟨g, p * 2 + 1, none⟩ = some (.string ts[p]) := by
  obtain ⟨h1, h2⟩ := tokCells_at ts p hp
  rcases h.2 with ⟨_, h0⟩ | ⟨g, cap, cur, rfl, _⟩
  · omega
  · refine ⟨g, cap, rfl, ?_, ?_⟩
    · have := h.cells rfl _ _ h1
      rwa [Addr.add_lit, Nat.zero_add] at this
    · have := h.cells rfl _ _ h2
      rwa [Addr.add_lit, Nat.zero_add] at this
theorem rd_len {w : World} {n : Nat} {v : Value} {xs : List Value} (h : w.ownsRow 0 154 2 v n xs) : ∃ a cap, v = .slice a n cap := by
  rcases h.2 with ⟨rfl, rfl⟩ | ⟨g, cap, cur, rfl, _⟩
  · exact ⟨_, _, rfl⟩
  · exact ⟨_, _, rfl⟩
theorem drop_head {ts : List ByteArray} {p : Nat} (h : p < ts.length) : ts.drop p = ts[p] :: ts.drop (p + 1) := List.drop_eq_getElem_cons h
set_option maxHeartbeats 2000000 in
theorem next_any (b : Nat) (v : Value) (ts : List ByteArray) (c : Option (List ByteArray)) (w : World) (h : Rd w b v ts c) (_hl : ts.length ≤ 1000) :
    Calls Tryz.prog 191 #[.pointer (some ⟨b, 0, none⟩)] w fun e w' => e = .returned (.int .i64 (hkc c : Int)) ∧ ∃ n, w' = w.drewN n := by
  obtain ⟨p, bad, h1, hrow, hp, hbad, rfl⟩ := h
  obtain ⟨c0, c1, c2⟩ := h1.cells
  obtain ⟨a, cap, rfl⟩ := rd_len hrow
  by_cases hlt : p < ts.length
  · have hb0 : bad = false := by cases bad with
      | false => rfl
      | true => have := hbad rfl; omega
    subst hb0
    obtain ⟨g, cap', hv, hc1, hc2⟩ := rd_cells hrow p hlt
    obtain ⟨rfl, rfl⟩ : a = some ⟨g, 0, none⟩ ∧ cap = cap' := by simpa using hv
    have HK : hkc (if false = true then none else some (ts.drop p)) = kd ts[p] := by
      show hk (ts.drop p) = _
      rw [drop_head hlt]; rfl
    rw [HK]
    clear HK
    have hne : ((p : Int) == (ts.length : Int)) = false := by rw [beq_eq_false_iff_ne]; omega
    have hlt' : (p : Int) < (ts.length : Int) := by omega
    clear hv hrow hbad
    go_enter Tryz.func191, Tryz.ntmps191
    go_wp2_with fail
    go_quiet (fail)
    go_wp2_with fail
    go_quiet (fail)
    go_wp2_with fail
    go_ret
    exact ⟨rfl, _, by rw [World.drewN_drewN]⟩
  · have hpe : p = ts.length := by omega
    have HK : hkc (if bad = true then none else some (ts.drop p)) = 0 := by
      cases bad
      · show hk (ts.drop p) = 0
        rw [List.drop_eq_nil_of_le (by omega)]; rfl
      · rfl
    rw [HK]
    clear HK
    have hne : ((p : Int) == (ts.length : Int)) = true := by rw [beq_iff_eq]; omega
    clear hrow hbad
    go_enter Tryz.func191, Tryz.ntmps191
    go_wp2_with fail
    go_quiet (fail)
    go_wp2_with fail
    go_ret
    exact ⟨rfl, _, rfl⟩
end Go.Proofs.YtbkeflgafjnefaaGreatDoor
namespace Go.Proofs.YtbkeflgafjnefaaGreatDoor
open Go.RowKit
open Trib
theorem grown_set_new {w W : World} {r : Option Nat} (h : w.grownBy W r) {c : Nat} (hc : w.heap.size ≤ c) (o : Nat) (x : Value) : w.grownBy (W.setCell ⟨c, o, none⟩ x) r :=
  ⟨h.os, h.tape, h.output, by show _ ≤ (W.heap.modify c _).size; rw [Array.size_modify]; exact h.size, fun k hk hn => (Below.heap_setCell _ _ _ k (by show k ≠ c; omega)).trans (h.block k hk hn)⟩
theorem RdIs.set_other {w : World} {b : Nat} {v : Value} {p : Nat} {bad : Bool} (h : RdIs w b v p bad) {c : Nat} (hc : b ≠ c) (o : Nat) (x : Value) : RdIs (w.setCell ⟨c, o, none⟩ x) b v p bad := (Below.heap_setCell _ _ _ b hc).trans h
theorem row_set_other {w : World} {base c : Nat} {e : TypeId} {size n g l cap : Nat} {xs : List Value} (h : w.ownsRow base e size (.slice (some ⟨g, 0, none⟩) l cap) n xs) (hc : g ≠ c) (o : Nat) (u : Value) : (w.setCell ⟨c, o, none⟩ u).ownsRow base e size (.slice (some ⟨g, 0, none⟩) l cap) n xs :=
  ownsRow_setCell_other h (by simpa [Value.ownBlock] using hc) u
theorem Rd.kept {w w' : World} {b : Nat} {v : Value} {ts : List ByteArray} {c : Option (List ByteArray)} (h : Rd w b v ts c) (hg : w.grownBy w' none) : Rd w' b v ts c := by
  obtain ⟨p, bad, h1, h2, h3⟩ := h
  exact ⟨p, bad, (hg.block b h1.lt (by simp)).trans h1, h2.kept hg (by cases v.ownBlock <;> simp), h3⟩
theorem grown_any {w w' : World} (h : w.grownBy w' none) (r : Option Nat) : w.grownBy w' r := ⟨h.os, h.tape, h.output, h.size, fun k hk _ => h.block k hk (by simp)⟩
theorem infoTok2 : (Tryz.prog.info? 154).map (·.size) = some 2 := by kernel_rfl
set_option maxHeartbeats 4000000 in
theorem take_any (b : Nat) (v : Value) (ts : List ByteArray) (c : Option (List ByteArray)) (w : World) (h : Rd w b v ts c) (hl : ts.length ≤ 1000) :
    Calls Tryz.prog 193 #[.pointer (some ⟨b, 0, none⟩)] w fun e w' => e = .returned (tokV (headTok c)) ∧ Rd w' b v ts (tailc c) ∧ w.grownBy w' (some b) := by
  obtain ⟨p, bad, h1, hrow, hp, hbad, rfl⟩ := h
  obtain ⟨c0, c1, c2⟩ := h1.cells
  have hf1 := h1.free 1
  have hblt := h1.lt
  obtain ⟨a, cap, rfl⟩ := rd_len hrow
  by_cases hlt : p < ts.length
  · have hb0 : bad = false := by cases bad with
      | false => rfl
      | true => have := hbad rfl; omega
    subst hb0
    obtain ⟨g, cap', hv, hc1, hc2⟩ := rd_cells hrow p hlt
    obtain ⟨rfl, rfl⟩ : a = some ⟨g, 0, none⟩ ∧ cap = cap' := by simpa using hv
    have e1 : headTok (if false = true then none else some (ts.drop p)) = (kd ts[p], ts[p]) := by
      show headTok (some (ts.drop p)) = _
      rw [drop_head hlt]; rfl
    have e2 : tailc (if false = true then none else some (ts.drop p)) = some (ts.drop (p + 1)) := by
      show tailc (some (ts.drop p)) = _
      rw [drop_head hlt]; rfl
    rw [e1, e2]
    clear e1 e2
    have hne : ((p : Int) == (ts.length : Int)) = false := by rw [beq_eq_false_iff_ne]; omega
    have hlt' : (p : Int) < (ts.length : Int) := by omega
    have hwr : IntKind.i64.wrap ((p : Int) + 1) = (p : Int) + 1 := by rw [IntKind.wrap_i64]; omega
    have hwr2 : IntKind.i64.wrap ((p : Int)) = (p : Int) := by rw [IntKind.wrap_i64]; omega
    have hga : g < w.heap.size := by
      have := World.block_lt_of_cell? w _ hc1
      exact this
    have hgb : g ≠ b := by
      rcases row_apart h1 hrow (by decide) with e | e
      · cases e
      · intro e'; subst e'; exact e rfl
    go_enter Tryz.func193, Tryz.ntmps193
    go_wp2_with fail
    go_quiet (fail)
    go_wp2_with fail
    have k1 : RdIs (((w.alloc (Obj.cells #[Value.int IntKind.i64 0, Value.string { data := #[] }] 154)).drewN nq).setCell ⟨b, 1, none⟩ (.int .i64 ((p : Int) + 1))) b (.slice (some ⟨g, 0, none⟩) ts.length cap) (p + 1) false := (show RdIs ((w.alloc (Obj.cells #[Value.int IntKind.i64 0, Value.string { data := #[] }] 154)).drewN nq) b (.slice (some ⟨g, 0, none⟩) ts.length cap) p false from h1.alloc _).set1 (p + 1)
    have kg : w.grownBy (((w.alloc (Obj.cells #[Value.int IntKind.i64 0, Value.string { data := #[] }] 154)).drewN nq).setCell ⟨b, 1, none⟩ (.int .i64 ((p : Int) + 1))) (some b) := ((World.grownBy_alloc w _ _).trans (grownBy_drewN _ _ _)).trans (grownBy_set _ _ _ _)
    have kn : (((w.alloc (Obj.cells #[Value.int IntKind.i64 0, Value.string { data := #[] }] 154)).drewN nq).setCell ⟨b, 1, none⟩ (.int .i64 ((p : Int) + 1))).heap[w.heap.size]? = some (.cells #[Value.int IntKind.i64 0, Value.string { data := #[] }] 154 (0, 0)) := (Below.heap_setCell _ _ _ _ (by show w.heap.size ≠ b; omega)).trans (heap_alloc_new w _)
    have krow := rd_row h1 hrow kg
    generalize ((w.alloc (Obj.cells #[Value.int IntKind.i64 0, Value.string { data := #[] }] 154)).drewN nq).setCell ⟨b, 1, none⟩ (.int .i64 ((p : Int) + 1)) = W at *
    clear c0 c1 c2 hf1 hc1 hc2 hrow hbad
    obtain ⟨c0, c1, c2⟩ := k1.cells
    obtain ⟨g', cap', hv, hc1, hc2⟩ := rd_cells krow p hlt
    obtain ⟨rfl, rfl⟩ : g = g' ∧ cap = cap' := by simpa using hv
    have n0 := blk_cell kn (i := 0) rfl
    have n1 := blk_cell kn (i := 1) rfl
    have f0 := blk_free (i := 0) kn
    have f1 := blk_free (i := 1) kn
    clear hv hp hne
    go_region
    all_goals
      go_wp2_with fail
      refine bodyPost_ret (v := tokV (kd ts[p], ts[p])) (by simp [results, Tryz.results193, go_sem, tokV, *]) rfl ⟨rfl, ?_, ?_⟩
      · exact ⟨p + 1, false, (show RdIs _ b _ (p + 1) false from (k1.set_other (by omega) _ _).set_other (by omega) _ _), (show World.ownsRow _ _ _ _ _ _ _ from row_set_other (row_set_other krow (by omega) _ _) (by omega) _ _), by omega, (fun e => Bool.noConfusion e), rfl⟩
      · exact (grown_set_new (grown_set_new kg (Nat.le_refl _) _ _) (Nat.le_refl _) _ _).trans (grownBy_drew _ _)
  · have hpe : p = ts.length := by omega
    have e1 : headTok (if bad = true then none else some (ts.drop p)) = (0, ⟨#[]⟩) := by
      cases bad
      · show headTok (some (ts.drop p)) = _
        rw [List.drop_eq_nil_of_le (by omega)]; rfl
      · rfl
    have e2 : tailc (if bad = true then none else some (ts.drop p)) = (if bad = true then none else some (ts.drop p)) := by
      cases bad
      · show tailc (some (ts.drop p)) = some _
        rw [List.drop_eq_nil_of_le (by omega)]; rfl
      · rfl
    rw [e1, e2]
    clear e1 e2
    have hne : ((p : Int) == (ts.length : Int)) = true := by rw [beq_iff_eq]; omega
    have hR : Rd w b (.slice a ts.length cap) ts (if bad = true then none else some (ts.drop p)) := ⟨p, bad, h1, hrow, hp, hbad, rfl⟩
    generalize (if bad = true then none else some (ts.drop p)) = cc at *
    clear hrow hbad hpe
    go_enter Tryz.func193, Tryz.ntmps193
    go_wp2_with fail
    go_quiet (fail)
    go_wp2_with fail
    refine bodyPost_ret (v := tokV (0, ⟨#[]⟩)) (by simp [results, Tryz.results193, go_sem, tokV]) rfl ⟨rfl, ?_, ?_⟩
    · exact hR.kept (grown_set_new (grown_set_new ((World.grownBy_alloc w _ _).trans (grownBy_drewN _ _ _)) (Nat.le_refl _) _ _) (Nat.le_refl _) _ _)
    · exact grown_set_new (grown_set_new ((World.grownBy_alloc w _ _).trans (grownBy_drewN _ _ _)) (Nat.le_refl _) _ _) (Nat.le_refl _) _ _
set_option maxHeartbeats 4000000 in
theorem fail_any (b : Nat) (v : Value) (ts : List ByteArray) (c : Option (List ByteArray)) (w : World) (h : Rd w b v ts c) :
    Calls Tryz.prog 192 #[.pointer (some ⟨b, 0, none⟩)] w fun e w' => e = .returned (.tuple #[]) ∧ Rd w' b v ts none ∧ w.grownBy w' (some b) := by
  obtain ⟨p, bad, h1, hrow, hp, hbad, rfl⟩ := h
  obtain ⟨c0, c1, c2⟩ := h1.cells
  have hf1 := h1.free 1
  have hf2 := h1.free 2
  obtain ⟨a, cap, rfl⟩ := rd_len hrow
  go_enter Tryz.func192, Tryz.ntmps192
  go_wp2_with fail
  go_end0
  have hg : w.grownBy ((w.setCell ⟨b, 2, none⟩ (.bool true)).setCell ⟨b, 1, none⟩ (.int .i64 (ts.length : Int))) (some b) := (grownBy_set _ _ _ _).trans (grownBy_set _ _ _ _)
  exact ⟨rfl, ⟨ts.length, true, (h1.set2 true).set1 ts.length, rd_row h1 hrow hg, Nat.le_refl _, fun _ => rfl, rfl⟩, hg⟩
end Go.Proofs.YtbkeflgafjnefaaGreatDoor
namespace Go.Proofs.YtbkeflgafjnefaaGreatDoor
open Go.RowKit
open Trib
def kVals (ks : List Nat) : List Value := ks.map fun (k : Nat) => Value.int .i64 (k : Int)
/-- Is the kind among them? -/
def inK (ks : List Nat) (k : Nat) : Bool := ks.contains k
/-- None of the first j is it. -/
def NoK (ks : List Nat) (k j : Nat) : Prop := k ∉ ks.take j
theorem NoK.next {ks : List Nat} {k j : Nat} (h : NoK ks k j) (hj : j < ks.length) (hk : k ≠ ks[j]) : NoK ks k (j + 1) := by
  unfold NoK at h ⊢
  rw [List.take_succ_eq_append_getElem hj, List.mem_append]
  rintro (e | e)
  · exact h e
  · exact hk (List.mem_singleton.1 e)
theorem NoK.done {ks : List Nat} {k j : Nat} (h : NoK ks k j) (hj : ¬ j < ks.length) : inK ks k = false := by
  unfold NoK at h
  rw [List.take_of_length_le (by omega)] at h
  unfold inK
  simpa using h
theorem inK_at {ks : List Nat} {k j : Nat} (hj : j < ks.length) (hk : k = ks[j]) : inK ks k = true := by
  unfold inK
  rw [hk, List.contains_iff_mem]; exact List.getElem_mem _
/-- A list of kinds in memory. -/
def Ks (w : World) (v : Value) (ks : List Nat) : Prop := w.ownsRow 0 152 1 v ks.length (kVals ks)
theorem Ks.cell {w : World} {v : Value} {ks : List Nat} (h : Ks w v ks) (i : Nat) (hi : i < ks.length) : ∃ g cap, v = .slice (some ⟨g, 0, none⟩) ks.length cap ∧ w.cell? ⟨g, i, none⟩ = some (.int .i64 (ks[i] : Int)) := by
  rcases h.2 with ⟨_, h0⟩ | ⟨g, cap, cur, rfl, _⟩
  · omega
  · refine ⟨g, cap, rfl, ?_⟩
    have := World.ownsRow.cells h rfl i (.int .i64 (ks[i] : Int)) (by rw [kVals, List.getElem?_map, List.getElem?_eq_getElem hi]; rfl)
    rwa [Addr.add_lit, Nat.zero_add] at this
theorem Ks.len {w : World} {v : Value} {ks : List Nat} (h : Ks w v ks) : ∃ a cap, v = .slice a ks.length cap := by
  rcases h.2 with ⟨rfl, h0⟩ | ⟨g, cap, cur, rfl, _⟩
  · exact ⟨none, 0, by rw [h0]⟩
  · exact ⟨_, _, rfl⟩
theorem Ks.made (w : World) (ks : List Nat) (cs : Array Value) (h : cs.toList = kVals ks) (hl : ks.length ≤ 100) : Ks (w.alloc (.cells cs 152)) (.slice (some ⟨w.heap.size, 0, none⟩) ks.length ks.length) ks := by
  have hlen : (kVals ks).length = ks.length := by simp [kVals]
  refine ⟨by rw [hlen, Nat.mul_one], Or.inr ⟨w.heap.size, ks.length, cs, rfl, Nat.zero_le _, heap_alloc_new w _, Nat.le_refl _, by unfold maxLen; omega, ?_, ?_⟩⟩
  · rw [← Array.length_toList, h, hlen, Nat.mul_one]
  · rw [h, Nat.mul_one, ← hlen, List.take_length]
set_option maxHeartbeats 2000000 in
theorem kindIndex_any (v : Value) (ks : List Nat) (k : Nat) (w : World) (h : Ks w v ks) (hl : ks.length ≤ 100) :
    Calls Tryz.prog 268 #[v, .int .i64 (k : Int)] w fun e w' => ∃ I : Int, e = .returned (.int .i64 I) ∧ decide (0 ≤ I) = inK ks k ∧ w = w' := by
  obtain ⟨a, cap, rfl⟩ := h.len
  go_enter Tryz.func268, Tryz.ntmps268
  go_wp2_with fail
  go_loop [8] (fun i => ∃ j : Nat, j ≤ ks.length ∧ i = .int .i64 j ∧ NoK ks k j) (fun i => ks.length - (intOf i).toNat)
  case atStart => exact ⟨0, Nat.zero_le _, rfl, by simp [NoK]⟩
  case round =>
    obtain ⟨j, hj, rfl, hno⟩ := hrel
    by_cases hlt : j < ks.length
    · obtain ⟨g, cap', hv, hc⟩ := h.cell j hlt
      obtain ⟨rfl, rfl⟩ : a = some ⟨g, 0, none⟩ ∧ cap = cap' := by simpa using hv
      have hlt' : (j : Int) < (ks.length : Int) := by omega
      by_cases he : k = ks[j]
      · have heb : ((k : Int) == (ks[j] : Int)) = true := by rw [beq_iff_eq]; omega
        have HC : Hid (inK ks k = true) := hide (inK_at hlt he)
        clear hno hv he
        go_wp2_with fail
        go_ret
        exact ⟨j, rfl, by rw [HC.out]; exact decide_eq_true (by omega), rfl⟩
      · have heb : ((k : Int) == (ks[j] : Int)) = false := by rw [beq_eq_false_iff_ne]; omega
        have HN := hide (hno.next hlt he)
        have hwr : IntKind.i64.wrap ((j : Int) + 1) = (j : Int) + 1 := by rw [IntKind.wrap_i64]; omega
        clear hno hv he
        go_wp2_with fail
        go_round
        case rel => exact ⟨j + 1, by omega, by go_num, HN.out⟩
        case measure => simp [intOf]; omega
    · have hlt' : (ks.length : Int) ≤ (j : Int) := by omega
      have HC : Hid (inK ks k = false) := hide (hno.done hlt)
      clear hno
      go_wp2_with fail
      go_ret
      exact ⟨-1, rfl, by rw [HC.out]; rfl, rfl⟩
set_option maxHeartbeats 2000000 in
theorem kindIn_any (v : Value) (ks : List Nat) (k : Nat) (w : World) (h : Ks w v ks) (hl : ks.length ≤ 100) :
    Calls Tryz.prog 190 #[v, .int .i64 (k : Int)] w fun e w' => e = .returned (.bool (inK ks k)) ∧ w = w' := by
  go_enter Tryz.func190, Tryz.ntmps190
  go_wp2_with (go_at_call 268; refine (kindIndex_any v ks k _ h hl).mono ?_; rintro e w' ⟨I, rfl, hI, rfl⟩; have HI := hide hI; clear hI)
  go_ret
  exact ⟨by rw [← HI.out]; rfl, rfl⟩
end Go.Proofs.YtbkeflgafjnefaaGreatDoor
namespace Go.Proofs.YtbkeflgafjnefaaGreatDoor
open Go.RowKit
open Trib
/-- The reading, if the next token is of one of these kinds; else it fails. -/
def expC (ks : List Nat) (c : Option (List ByteArray)) : Option (List ByteArray) := if inK ks (hkc c) then c else none
theorem made_keptP {w w2 : World} {b : Nat} {o : Obj} {r : Option Nat} (hr : r = some b) (hb : b < w.heap.size) (hg : (w.alloc o).grownBy w2 r) : w2.heap[w.heap.size]? = some o := by
  subst hr
  have h1 : (w.alloc o).heap[w.heap.size]? = some o := heap_alloc_new w o
  exact (hg.block w.heap.size (Array.getElem?_eq_some_iff.1 h1).1 (by simp; omega)).trans h1
theorem Ks.drewN {w : World} {v : Value} {ks : List Nat} (h : Ks w v ks) (n : Nat) : Ks (w.drewN n) v ks := h
theorem Rd.own {w : World} {b : Nat} {v : Value} {ts : List ByteArray} {c : Option (List ByteArray)} (h : Rd w b v ts c) : ∀ k, v.ownBlock = some k → k < w.heap.size := by
  obtain ⟨p, bad, h1, h2, _⟩ := h
  exact fun k hk => (h2.lt k hk).2
/-- A store into a block that is newer than the tokens. -/
theorem Rd.setNew {w : World} {b : Nat} {v : Value} {ts : List ByteArray} {c : Option (List ByteArray)} (h : Rd w b v ts c) {N c0 o : Nat} (hN : ∀ k, v.ownBlock = some k → k < N) (hb : b < N) (hc : N ≤ c0) (x : Value) : Rd (w.setCell ⟨c0, o, none⟩ x) b v ts c := by
  obtain ⟨p, bad, h1, h2, h3⟩ := h
  refine ⟨p, bad, (Below.heap_setCell _ _ _ b (by show b ≠ c0; omega)).trans h1, ownsRow_setCell_other h2 ?_ x, h3⟩
  intro e
  have h4 : c0 < N := hN _ e
  omega
set_option maxHeartbeats 4000000 in
theorem expect_any (b : Nat) (v : Value) (ts : List ByteArray) (c : Option (List ByteArray)) (av : Value) (ks : List Nat) (w : World) (h : Rd w b v ts c) (hk : Ks w av ks) (hl : ts.length ≤ 1000) (hkl : ks.length ≤ 100) :
    Calls Tryz.prog 132 #[.pointer (some ⟨b, 0, none⟩), av] w fun e w' => e = .returned (tokV (headTok (expC ks c))) ∧ Rd w' b v ts (tailc (expC ks c)) ∧ w.grownBy w' (some b) := by
  have hblt := h.lt
  have hown := h.own
  have hR0 : Rd (w.alloc (.cells #[.int .i64 0, .string ⟨#[]⟩] 154)) b v ts c := h.alloc _
  have hK0 : Ks (w.alloc (.cells #[.int .i64 0, .string ⟨#[]⟩] 154)) av ks := World.ownsRow.alloc hk _
  generalize hI : inK ks (hkc c) = I
  have HI := hide hI
  cases I
  · have hE : expC ks c = none := by unfold expC; rw [hI]; rfl
    rw [hE]
    clear hE hI
    go_enter Tryz.func132, Tryz.ntmps132
    go_wp2_with (first | (go_at_call 191; refine (next_any b v ts c _ hR0 hl).mono ?_; rintro e w1 ⟨rfl, n1, rfl⟩) | (go_at_call 190; refine (kindIn_any av ks _ _ (hK0.drewN n1) hkl).mono ?_; rintro e w2 ⟨rfl, rfl⟩; rw [HI.out]) | (go_at_call 192; refine (fail_any b v ts c _ (hR0.drewN n1)).mono ?_; rintro e w3 ⟨rfl, hR3, hg3⟩) | (go_at_call 193; refine (take_any b v ts none _ hR3 hl).mono ?_; rintro e w4 ⟨rfl, hR4, hg4⟩; have hg := ((grownBy_drewN _ n1 (some b)).trans hg3).trans hg4; have hblk := made_keptP (o := .cells #[.int .i64 0, .string ⟨#[]⟩] 154) rfl hblt hg; have hc0 := blk_cell hblk (i := 0) rfl; have hc1 := blk_cell hblk (i := 1) rfl; have hf0 := blk_free (i := 0) hblk; have hf1 := blk_free (i := 1) hblk; simp only [tokV]))
    refine bodyPost_ret (v := tokV (headTok none)) (by simp [results, Tryz.results132, go_sem, tokV, *]) rfl ⟨rfl, ?_, ?_⟩
    · exact (hR4.setNew hown hblt (Nat.le_refl _) _).setNew hown hblt (Nat.le_refl _) _
    · exact grown_set_new (grown_set_new ((World.grownBy_alloc w _ _).trans hg) (Nat.le_refl _) _ _) (Nat.le_refl _) _ _
  · have hE : expC ks c = c := by unfold expC; rw [hI]; rfl
    rw [hE]
    clear hE hI
    generalize hT : headTok c = T
    have HT := hide hT
    clear hT
    obtain ⟨T1, T2⟩ := T
    go_enter Tryz.func132, Tryz.ntmps132
    go_wp2_with (first | (go_at_call 191; refine (next_any b v ts c _ hR0 hl).mono ?_; rintro e w1 ⟨rfl, n1, rfl⟩) | (go_at_call 190; refine (kindIn_any av ks _ _ (hK0.drewN n1) hkl).mono ?_; rintro e w2 ⟨rfl, rfl⟩; rw [HI.out]) | (go_at_call 193; refine (take_any b v ts c _ (hR0.drewN n1) hl).mono ?_; rintro e w4 ⟨rfl, hR4, hg4⟩; have hg := (grownBy_drewN _ n1 (some b)).trans hg4; have hblk := made_keptP (o := .cells #[.int .i64 0, .string ⟨#[]⟩] 154) rfl hblt hg; have hc0 := blk_cell hblk (i := 0) rfl; have hc1 := blk_cell hblk (i := 1) rfl; have hf0 := blk_free (i := 0) hblk; have hf1 := blk_free (i := 1) hblk; rw [HT.out]; simp only [tokV]))
    refine bodyPost_ret (v := tokV (T1, T2)) (by simp [results, Tryz.results132, go_sem, tokV, *]) rfl ⟨rfl, ?_, ?_⟩
    · exact (hR4.setNew hown hblt (Nat.le_refl _) _).setNew hown hblt (Nat.le_refl _) _
    · exact grown_set_new (grown_set_new ((World.grownBy_alloc w _ _).trans hg) (Nat.le_refl _) _ _) (Nat.le_refl _) _ _
/-- The reading behind 'accept'. -/
def accC (k : Nat) (c : Option (List ByteArray)) : Option (List ByteArray) := if hkc c = k then tailc c else c
set_option maxHeartbeats 4000000 in
theorem accept_any (b : Nat) (v : Value) (ts : List ByteArray) (c : Option (List ByteArray)) (k : Nat) (w : World) (h : Rd w b v ts c) (hl : ts.length ≤ 1000) :
    Calls Tryz.prog 187 #[.pointer (some ⟨b, 0, none⟩), .int .i64 (k : Int)] w fun e w' => e = .returned (.bool (decide (hkc c = k))) ∧ Rd w' b v ts (accC k c) ∧ w.grownBy w' (some b) := by
  by_cases hk : hkc c = k
  · have e1 : accC k c = tailc c := by unfold accC; rw [if_pos hk]
    rw [e1, decide_eq_true hk]
    have hkb : ((hkc c : Int) != (k : Int)) = false := by rw [bne_eq_false_iff_eq]; omega
    clear e1 hk
    go_enter Tryz.func187, Tryz.ntmps187
    go_wp2_with (first | (go_at_call 191; refine (next_any b v ts c _ h hl).mono ?_; rintro e w1 ⟨rfl, n1, rfl⟩) | (go_at_call 193; refine (take_any b v ts c _ (h.drewN n1) hl).mono ?_; rintro e w4 ⟨rfl, hR4, hg4⟩; simp only [tokV]))
    go_ret
    exact ⟨rfl, hR4, (grownBy_drewN _ _ _).trans hg4⟩
  · have e1 : accC k c = c := by unfold accC; rw [if_neg hk]
    rw [e1, decide_eq_false hk]
    have hkb : ((hkc c : Int) != (k : Int)) = true := by rw [bne_iff_ne]; omega
    clear e1 hk
    go_enter Tryz.func187, Tryz.ntmps187
    go_wp2_with (go_at_call 191; refine (next_any b v ts c _ h hl).mono ?_; rintro e w1 ⟨rfl, n1, rfl⟩)
    go_ret
    exact ⟨rfl, h.drewN n1, grownBy_drewN _ _ _⟩
end Go.Proofs.YtbkeflgafjnefaaGreatDoor
namespace Go.Proofs.YtbkeflgafjnefaaGreatDoor
open Go.RowKit
open Trib
/-- The next token, of a kind, and what is left. -/
def tk (k : Nat) (c : Option (List ByteArray)) : Option (ByteArray × List ByteArray) := c.bind (takeT k)
def tkT (k : Nat) (c : Option (List ByteArray)) : Nat × ByteArray := match tk k c with
  | some x => (k, x.1)
  | none => (0, ⟨#[]⟩)
def tkR (k : Nat) (c : Option (List ByteArray)) : Option (List ByteArray) := (tk k c).map (·.2)
theorem inK_one (k j : Nat) : inK [k] j = decide (j = k) := by
  unfold inK
  by_cases h : j = k
  · subst h; simp
  · simp [h]
theorem exp_one (k : Nat) (hk : k ≠ 0) (c : Option (List ByteArray)) : headTok (expC [k] c) = tkT k c ∧ tailc (expC [k] c) = tkR k c := by
  unfold expC tkT tkR tk
  rw [inK_one]
  match c with
  | none =>
    have e : hkc none = 0 := rfl
    rw [e, decide_eq_false (by omega)]
    exact ⟨rfl, rfl⟩
  | some [] =>
    have e : hkc (some []) = 0 := rfl
    rw [e, decide_eq_false (by omega)]
    exact ⟨rfl, rfl⟩
  | some (t :: r) =>
    have e : hkc (some (t :: r)) = kd t := rfl
    rw [e, Option.bind_some, takeT]
    by_cases h : kd t = k
    · rw [decide_eq_true h, if_pos h]
      exact ⟨by show (kd t, t) = (k, t); rw [h], rfl⟩
    · rw [decide_eq_false h, if_neg h]
      exact ⟨rfl, rfl⟩
/-- 'expect' at one kind, its list just made. -/
theorem expect1 (k : Nat) (kI : Int) (hkI : kI = (k : Int)) (hk : k ≠ 0) (b : Nat) (v : Value) (ts : List ByteArray) (c : Option (List ByteArray)) (W : World) (N : Nat) (hN : W.heap.size = N) (h : Rd W b v ts c) (hl : ts.length ≤ 1000) :
    Calls Tryz.prog 132 #[.pointer (some ⟨b, 0, none⟩), .slice (some ⟨N, 0, none⟩) 1 1] (W.alloc (.cells #[.int .i64 kI] 152)) fun e w' => e = .returned (tokV (tkT k c)) ∧ Rd w' b v ts (tkR k c) ∧ W.grownBy w' (some b) := by
  subst hkI hN
  obtain ⟨e1, e2⟩ := exp_one k hk c
  refine (expect_any b v ts c _ [k] _ (h.alloc _) (Ks.made W [k] #[.int .i64 (k : Int)] rfl (by show 1 ≤ 100; omega)) hl (by show 1 ≤ 100; omega)).mono ?_
  rintro e w' ⟨h1, h2, h3⟩
  rw [e1] at h1
  rw [e2] at h2
  exact ⟨h1, h2, (World.grownBy_alloc W _ _).trans h3⟩
/-- What reading a part leaves: the pointer to it, how far it went; the tree, if it went well. -/
def PartPost (w : World) (b : Nat) (v : Value) (ts : List ByteArray) (o : Option (List ByteArray × Tr)) (e : Ending) (w' : World) : Prop :=
  ∃ x : Nat, e = .returned (.pointer (some ⟨x, 0, none⟩)) ∧ Rd w' b v ts (o.map (·.1)) ∧ w.grownBy w' (some b) ∧ ∀ r t, o = some (r, t) → Is w' w.heap.size t [.pointer (some ⟨x, 0, none⟩)]
theorem col_chain (c : Option (List ByteArray)) : tkR 1 (tkR 7 (tkR 1 c)) = (c.bind colT).map (·.1) ∧ ∀ r t, c.bind colT = some (r, t) → t = .node 1 (tkT 1 c).2 (tkT 1 (tkR 7 (tkR 1 c))).2 Vl.zero .nil .nil := by
  unfold tkR tkT tk
  cases c with
  | none => exact ⟨rfl, fun r t h => by cases h⟩
  | some ts =>
    simp only [Option.bind_some]
    unfold colT
    cases takeT 1 ts with
    | none => exact ⟨rfl, fun r t h => by cases h⟩
    | some a =>
      simp only [Option.map_some, Option.bind_some]
      cases takeT 7 a.2 with
      | none => exact ⟨rfl, fun r t h => by cases h⟩
      | some d =>
        simp only [Option.map_some, Option.bind_some]
        cases takeT 1 d.2 with
        | none => exact ⟨rfl, fun r t h => by cases h⟩
        | some x =>
          refine ⟨rfl, fun r t h => ?_⟩
          simp only [Option.bind_some, Option.some.injEq, Prod.mk.injEq] at h
          exact h.2.symm
theorem blk_alloc {w : World} {c : Nat} {o : Obj} (h : w.heap[c]? = some o) (o' : Obj) : (w.alloc o').heap[c]? = some o := (Below.heap_alloc w o' c (Array.getElem?_eq_some_iff.1 h).1).trans h
theorem leaf_is {w : World} {lo b : Nat} {k : Nat} {src name : ByteArray} {val : Vl} (hl : lo ≤ b) (h : w.heap[b]? = some (.cells #[.int .i64 (k : Int), .string src, .string name, .int .i64 (val.kind : Int), .int .i64 val.num, .string (bytesL val.word), .slice none 0 0, .pointer none, .int .i64 0, .int .i64 0, .int .i64 0] 333 (0, 0))) :
    Is w lo (.node k src name val .nil .nil) [.pointer (some ⟨b, 0, none⟩)] :=
  .node (vs := []) (qs := []) (p0 := 0) (p1 := 0) (p2 := 0) hl h (World.ownsRow_nil _ _ _ _) .nil .nil
theorem Rd.allocs {w : World} {b : Nat} {v : Value} {ts : List ByteArray} {c : Option (List ByteArray)} (h : Rd w b v ts c) (o : Obj) : Rd (w.alloc o) b v ts c := h.alloc o
theorem expectE (k : Nat) (kI : Int) (hkI : kI = (k : Int)) (hk : k ≠ 0) (b : Nat) (v : Value) (ts : List ByteArray) (c c' : Option (List ByteArray)) (T : Nat × ByteArray) (hT : tkT k c = T) (hc : tkR k c = c') (W : World) (N : Nat) (hN : W.heap.size = N) (h : Rd W b v ts c) (hl : ts.length ≤ 1000) :
    Calls Tryz.prog 132 #[.pointer (some ⟨b, 0, none⟩), .slice (some ⟨N, 0, none⟩) 1 1] (W.alloc (.cells #[.int .i64 kI] 152)) fun e w' => e = .returned (.agg #[.int .i64 (T.1 : Int), .string T.2]) ∧ Rd w' b v ts c' ∧ W.grownBy w' (some b) := by
  subst hT hc
  exact expect1 k kI hkI hk b v ts c W N hN h hl
theorem new_at (W : World) (N : Nat) (hN : W.heap.size = N) (o : Obj) : (W.alloc o).heap[N]? = some o := by subst hN; exact heap_alloc_new W o
theorem kept_ne {w w' : World} {b c : Nat} {o : Obj} (h : w.heap[c]? = some o) (hg : w.grownBy w' (some b)) (hne : c ≠ b) : w'.heap[c]? = some o := (hg.block c (Array.getElem?_eq_some_iff.1 h).1 (by simpa using hne)).trans h
set_option maxHeartbeats 4000000 in
theorem column_part (b : Nat) (v : Value) (ts : List ByteArray) (c : Option (List ByteArray)) (w : World) (h : Rd w b v ts c) (hl : ts.length ≤ 1000) :
    Calls Tryz.prog 267 #[.pointer (some ⟨b, 0, none⟩)] w (PartPost w b v ts (c.bind colT)) := by
  obtain ⟨e1, e2⟩ := col_chain c
  unfold PartPost
  generalize hT1 : tkT 1 c = T1 at e2
  generalize hc1 : tkR 1 c = c1 at e1 e2
  generalize hc2 : tkR 7 c1 = c2 at e1 e2
  generalize hT3 : tkT 1 c2 = T3 at e2
  generalize hc3 : tkR 1 c2 = c3 at e1
  rw [← e1]
  have E2 := hide e2
  clear e1 e2
  obtain ⟨T1a, T1b⟩ := T1
  obtain ⟨T3a, T3b⟩ := T3
  have hblt := h.lt
  go_enter Tryz.func267, Tryz.ntmps267
  go_wp2_with fail
  refine (expectE 1 1 rfl (by decide) b v ts c c1 _ hT1 hc1 w _ (by simp) h hl).mono ?_
  rintro e w1 ⟨rfl, hR1, hg1⟩
  have hR1' := hR1.alloc (.cells #[.int .i64 (T1a : Int), .string T1b] 154)
  have hs1 := hg1.size
  go_wp2_with fail
  refine (expectE 7 7 rfl (by decide) b v ts c1 c2 _ rfl hc2 _ _ (by simp) hR1' hl).mono ?_
  rintro e w2 ⟨rfl, hR2, hg2⟩
  have hblk1 : w2.heap[w1.heap.size]? = some (.cells #[.int .i64 (T1a : Int), .string T1b] 154 (0, 0)) := made_keptP rfl hR1.lt hg2
  go_wp2_with fail
  refine (expectE 1 1 rfl (by decide) b v ts c2 c3 _ hT3 hc3 w2 _ (by simp) hR2 hl).mono ?_
  rintro e w3 ⟨rfl, hR3, hg3⟩
  have hblk2 := kept_ne hblk1 hg3 (by omega)
  have d1 := blk_cell (blk_alloc hblk2 (.cells #[.int .i64 (T3a : Int), .string T3b] 154)) (i := 1) rfl
  have hG : w.grownBy w3 (some b) := (hg1.trans ((World.grownBy_alloc w1 _ _).trans hg2)).trans hg3
  have hs3 := hG.size
  clear hT1 hc1 hc2 hT3 hc3
  go_wp2_with fail
  go_ret
  refine ⟨_, rfl, (hR3.alloc _).alloc _, (hG.trans (World.grownBy_alloc w3 _ _)).trans (World.grownBy_alloc _ _ _), fun r t ht => ?_⟩
  rw [E2.out r t ht]
  exact leaf_is (k := 1) (val := Vl.zero) (by omega) (new_at _ _ (by simp) _)
end Go.Proofs.YtbkeflgafjnefaaGreatDoor
namespace Go.Proofs.YtbkeflgafjnefaaGreatDoor
open Go.RowKit
open Trib
/-- Tokens of a text of bounded length. -/
def Sm (ts : List ByteArray) : Prop := ts.length ≤ 1000 ∧ ∀ t ∈ ts, t.size ≤ 1000
theorem expectK (ks : List Nat) (cs : Array Value) (n : Nat) (hn : ks.length = n) (hcs : cs.toList = kVals ks) (hkl : ks.length ≤ 100) (b : Nat) (v : Value) (ts : List ByteArray) (c c' : Option (List ByteArray)) (T : Nat × ByteArray) (hT : headTok (expC ks c) = T) (hc : tailc (expC ks c) = c') (W : World) (N : Nat) (hN : W.heap.size = N) (h : Rd W b v ts c) (hl : ts.length ≤ 1000) :
    Calls Tryz.prog 132 #[.pointer (some ⟨b, 0, none⟩), .slice (some ⟨N, 0, none⟩) n n] (W.alloc (.cells cs 152)) fun e w' => e = .returned (.agg #[.int .i64 (T.1 : Int), .string T.2]) ∧ Rd w' b v ts c' ∧ W.grownBy w' (some b) := by
  subst hn hN hT hc
  refine (expect_any b v ts c _ ks _ (h.alloc _) (Ks.made W ks cs hcs hkl) hl hkl).mono ?_
  rintro e w' ⟨h1, h2, h3⟩
  exact ⟨h1, h2, (World.grownBy_alloc W _ _).trans h3⟩
theorem headTok_small {w : World} {b : Nat} {v : Value} {ts : List ByteArray} {c : Option (List ByteArray)} (h : Rd w b v ts c) (hs : Sm ts) (ks : List Nat) : (headTok (expC ks c)).2.size ≤ 1000 := by
  have key : ∀ c', (c' = c ∨ c' = none) → (headTok c').2.size ≤ 1000 := by
    rintro c' (rfl | rfl)
    · obtain ⟨p, bad, _, _, _, _, rfl⟩ := h
      cases bad
      · show (headTok (some (ts.drop p))).2.size ≤ 1000
        cases hd : ts.drop p with
        | nil => exact Nat.zero_le _
        | cons t r => exact hs.2 t (List.mem_of_mem_drop (i := p) (by rw [hd]; exact List.mem_cons_self))
      · exact Nat.zero_le _
    · exact Nat.zero_le _
  refine key _ ?_
  unfold expC
  split
  · exact Or.inl rfl
  · exact Or.inr rfl
theorem tokField1 (a : Int) (t : ByteArray) (w : World) : Sem.run Tryz.prog (Instr.field 154 (Value.agg #[.int .i64 a, .string t]) 1) w = .ok (.string t) w := by kernel_rfl
theorem tokField0 (a : Int) (t : ByteArray) (w : World) : Sem.run Tryz.prog (Instr.field 154 (Value.agg #[.int .i64 a, .string t]) 0) w = .ok (.int .i64 a) w := by kernel_rfl
/-- A constant, as the grammar has it. -/
def constT (ts : List ByteArray) : Option (List ByteArray × Tr) := if hk ts = 2 ∨ hk ts = 3 ∨ hk ts = 24 then some (ts.tail, .node 2 ⟨#[]⟩ ⟨#[]⟩ (valRes (ts.headD ⟨#[]⟩).data.toList).1 .nil .nil) else none
theorem const_chain (c : Option (List ByteArray)) : tailc (expC [2, 3, 24] c) = (c.bind constT).map (·.1) ∧ ∀ r t, c.bind constT = some (r, t) → t = .node 2 ⟨#[]⟩ ⟨#[]⟩ (valRes (headTok (expC [2, 3, 24] c)).2.data.toList).1 .nil .nil := by
  have hin : ∀ k, inK [2, 3, 24] k = decide (k = 2 ∨ k = 3 ∨ k = 24) := by
    intro k; unfold inK
    by_cases h2 : k = 2
    · subst h2; rfl
    · by_cases h3 : k = 3
      · subst h3; rfl
      · by_cases h4 : k = 24
        · subst h4; rfl
        · simp [h2, h3, h4]
  unfold expC
  rw [hin]
  match c with
  | none => exact ⟨rfl, fun r t h => by cases h⟩
  | some [] => exact ⟨rfl, fun r t h => by cases h⟩
  | some (a :: l) =>
    have e : hkc (some (a :: l)) = hk (a :: l) := rfl
    rw [e, Option.bind_some]
    unfold constT
    by_cases h : hk (a :: l) = 2 ∨ hk (a :: l) = 3 ∨ hk (a :: l) = 24
    · rw [if_pos h, decide_eq_true h]
      refine ⟨rfl, fun r t ht => ?_⟩
      simp only [Option.some.injEq, Prod.mk.injEq] at ht
      exact ht.2.symm
    · rw [if_neg h, decide_eq_false h]
      exact ⟨rfl, fun r t ht => by cases ht⟩
set_option maxHeartbeats 4000000 in
set_option maxRecDepth 100000 in
theorem constant_part (b : Nat) (v : Value) (ts : List ByteArray) (c : Option (List ByteArray)) (w : World) (h : Rd w b v ts c) (hs : Sm ts) :
    Calls Tryz.prog 354 #[.pointer (some ⟨b, 0, none⟩)] w (PartPost w b v ts (c.bind constT)) := by
  obtain ⟨e1, e2⟩ := const_chain c
  have hts := headTok_small h hs [2, 3, 24]
  unfold PartPost
  generalize hT : headTok (expC [2, 3, 24] c) = T at e2 hts
  generalize hc1 : tailc (expC [2, 3, 24] c) = c1 at e1
  rw [← e1]
  obtain ⟨Ta, Tb⟩ := T
  simp only at e2 hts
  generalize hR : valRes Tb.data.toList = R at e2
  obtain ⟨R1, R2⟩ := R
  have E2 := hide e2
  have HR := hide hR
  clear e1 e2 hR
  have hblt := h.lt
  go_enter Tryz.func354, Tryz.ntmps354
  go_wp2_with fail
  refine (expectK [2, 3, 24] _ 3 rfl rfl (by decide) b v ts c c1 _ hT hc1 w _ (by simp) h hs.1).mono ?_
  rintro e w1 ⟨rfl, hR1, hg1⟩
  have hs1 := hg1.size
  clear hT hc1
  have hfld := tokField1 Ta Tb w1
  go_wp2_with (go_at_call 180; refine (valRead_any Tb _ (by omega)).mono ?_; rintro e w2 ⟨rfl, hb2⟩; rw [HR.out]; simp only [vlV])
  have hg2 : w1.grownBy w2 (some b) := ⟨hb2.os, hb2.tape, hb2.output, hb2.size, fun k hk _ => hb2.block k hk⟩
  have hR2 := hR1.below hb2
  have hs2 := hb2.size
  go_ret
  refine ⟨_, rfl, (hR2.alloc _).alloc _, (((hg1.trans hg2).trans (World.grownBy_alloc w2 _ _)).trans (World.grownBy_alloc _ _ _)), fun r t ht => ?_⟩
  rw [E2.out r t ht]
  exact leaf_is (k := 2) (val := R1) (by omega) (new_at _ _ (by simp) _)
end Go.Proofs.YtbkeflgafjnefaaGreatDoor
