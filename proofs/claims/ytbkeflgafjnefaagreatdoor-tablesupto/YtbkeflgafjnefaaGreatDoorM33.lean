/- Towards the law of tables: QParts, QAll. -/
import Derived.Test.YtbkeflgafjnefaaGreatDoorM32
import Derived.Deep.AppendLies
import Derived.Deep.RegionHeld3
import Derived.Deep.LoopGhost
import Derived.Deep.DrawnRows
namespace Go.Proofs.YtbkeflgafjnefaaGreatDoor
open Go.RowKit
open Trib

/-- The query that is being made, in block c, behind what came ahead of w. -/
structure QBase (w : World) (b : Nat) (v : Value) (c : Nat) (p : Int) (bad : Bool) (dp : Int) (cs : Array Value) (wr : World) : Prop where
  sc : ScanIs wr b v p bad dp
  gr : w.grownBy wr (some b)
  q : wr.heap[c]? = some (.cells cs 388 (0, 0))
theorem QBase.ne {w : World} {b : Nat} {v : Value} {c : Nat} {p : Int} {bad : Bool} {dp : Int} {cs : Array Value} {wr : World} (h : QBase w b v c p bad dp cs wr) : c ≠ b := by
  rintro rfl
  have := (show wr.heap[c]? = _ from h.sc).symm.trans h.q
  simp at this
theorem QBase.step {w : World} {b : Nat} {v : Value} {c : Nat} {p p' : Int} {bad bad' : Bool} {dp dp' : Int} {cs : Array Value} {wr w' : World} (h : QBase w b v c p bad dp cs wr) (ha : After wr b v p' bad' dp' w') : QBase w b v c p' bad' dp' cs w' :=
  ⟨ha.1, h.gr.trans ha.2, (ha.2.block c (lt_of_block h.q) (by simpa using h.ne)).trans h.q⟩
theorem QBase.row {w : World} {b : Nat} {v : Value} {c : Nat} {p : Int} {bad : Bool} {dp : Int} {cs : Array Value} {wr : World} {ts : List ByteArray} (h : QBase w b v c p bad dp cs wr) (hr : RowIs w b v ts) : RowIs wr b v ts := hr.kept h.gr
theorem QBase.cell {w : World} {b : Nat} {v : Value} {c : Nat} {p : Int} {bad : Bool} {dp : Int} {cs : Array Value} {wr : World} (h : QBase w b v c p bad dp cs wr) {i : Nat} {x : Value} (hx : cs[i]? = some x) : wr.cell? ⟨c, i, none⟩ = some x := cell_of_block h.q hx
theorem QBase.free {w : World} {b : Nat} {v : Value} {c : Nat} {p : Int} {bad : Bool} {dp : Int} {cs : Array Value} {wr : World} (h : QBase w b v c p bad dp cs wr) (i : Nat) : wr.frozen? ⟨c, i, none⟩ = false := free_of_block h.q
/-- A store into the query's block. -/
theorem QBase.set {w : World} {b : Nat} {v : Value} {c : Nat} {p : Int} {bad : Bool} {dp : Int} {cs : Array Value} {wr : World} (h : QBase w b v c p bad dp cs wr) (hc : w.heap.size ≤ c) (i : Nat) (x : Value) : QBase w b v c p bad dp (cs.setIfInBounds i x) (wr.setCell ⟨c, i, none⟩ x) :=
  ⟨(Below.heap_setCell _ _ _ b (by show b ≠ c; exact h.ne.symm)).trans h.sc, ⟨h.gr.os, h.gr.tape, h.gr.output, by
      show _ ≤ (wr.heap.modify c _).size
      rw [Array.size_modify]; exact h.gr.size, fun k hk hn => (Below.heap_setCell _ _ _ k (by show k ≠ c; omega)).trans (h.gr.block k hk hn)⟩, heap_setCell h.q x⟩
theorem QBase.alloc {w : World} {b : Nat} {v : Value} {c : Nat} {p : Int} {bad : Bool} {dp : Int} {cs : Array Value} {wr : World} (h : QBase w b v c p bad dp cs wr) (o : Obj) : QBase w b v c p bad dp cs (wr.alloc o) :=
  ⟨h.sc.alloc o, h.gr.trans (World.grownBy_alloc wr o _), (Below.heap_alloc wr o c (lt_of_block h.q)).trans h.q⟩
/-- What grows a row of another type leaves the query and the Scan alone. -/
theorem QBase.grown {w : World} {b : Nat} {v : Value} {c : Nat} {p : Int} {bad : Bool} {dp : Int} {cs : Array Value} {wr w' : World} {e : TypeId} {size n : Nat} {x : Value} {xs : List Value} (h : QBase w b v c p bad dp cs wr) (hrow : wr.ownsRow w.heap.size e size x n xs) (hg : wr.grownBy w' x.ownBlock) (he1 : e ≠ 388) (he2 : e ≠ 374) : QBase w b v c p bad dp cs w' := by
  have hne : ∀ k o t, wr.heap[k]? = some (.cells o t (0, 0)) → t ≠ e → some k ≠ x.ownBlock := by
    intro k o t hk ht e'
    rcases hrow.2 with ⟨rfl, _⟩ | ⟨g, cap, cur, rfl, _, hgb, _⟩
    · simp [Value.ownBlock] at e'
    · obtain rfl : k = g := by simpa [Value.ownBlock] using e'
      rw [hk] at hgb
      simp at hgb
      exact ht hgb.2
  refine ⟨(hg.block b h.sc.lt (hne b _ _ h.sc he2.symm)).trans h.sc, ⟨hg.os.trans h.gr.os, hg.tape.trans h.gr.tape, hg.output.trans h.gr.output, Nat.le_trans h.gr.size hg.size, fun k hk hn => ?_⟩, (hg.block c (lt_of_block h.q) (hne c _ _ h.q he1.symm)).trans h.q⟩
  refine (hg.block k (Nat.lt_of_lt_of_le hk h.gr.size) ?_).trans (h.gr.block k hk hn)
  intro e'
  have := (hrow.lt k e'.symm).1
  omega
theorem row_step {w wr w' : World} {b : Nat} {v : Value} {p p' : Int} {bad bad' : Bool} {dp dp' : Int} {e : TypeId} {size n : Nat} {x : Value} {xs : List Value} (hs : ScanIs wr b v p bad dp) (ha : After wr b v p' bad' dp' w') (hrow : wr.ownsRow w.heap.size e size x n xs) (he2 : e ≠ 374) : w'.ownsRow w.heap.size e size x n xs := by
  refine hrow.kept ha.2 ?_
  rcases hrow.2 with ⟨rfl, _⟩ | ⟨g, cap, cur, rfl, _, hgb, _⟩
  · exact Or.inl rfl
  · refine Or.inr fun e' => ?_
    obtain rfl : g = b := by simpa [Value.ownBlock] using e'
    have := (show wr.heap[g]? = _ from hs).symm.trans hgb
    simp at this
    exact he2 this.2.symm
/-- exprs with a comma between, from a place and a depth on. -/
def L3 (f : Nat) (ks : List Nat) (d dp : Int) : Option (List Nat × Int) := (R f 3 ks d).map fun x => (x.1, max dp x.2)
theorem L3_step {f : Nat} {ks : List Nat} {d dp : Int} : L3 (f + 1) ks d dp = (R f 0 ks d).bind fun x => if x.1.headD 0 = 6 then L3 f x.1.tail d (max dp x.2) else some (x.1, max dp x.2) := by
  rw [L3, R]
  cases R f 0 ks d with
  | none => rfl
  | some x =>
    simp only [Option.bind_some]
    split
    · rw [L3]
      cases R f 3 x.1.tail d with
      | none => rfl
      | some y => simp [Int.max_assoc]
    · rfl
/-- What the loop over the exprs still has to find. -/
def ExprsTo (T : Option (List Nat × Int)) (f : Nat) (ts : List ByteArray) (d : Int) (more bad : Bool) (p dp : Int) (n : Nat) : Prop :=
  ∃ f1, f1 ≤ f ∧ (bad = false → more = true → 8 * (ts.length - p) + 2 ≤ f1 ∧ (n : Int) ≤ p) ∧ T = (Cur ts p bad).bind fun ks => if more then L3 f1 ks d dp else some (ks, dp)
end Go.Proofs.YtbkeflgafjnefaaGreatDoor
namespace Go.Proofs.YtbkeflgafjnefaaGreatDoor
open Go.RowKit
open Trib
/-- A cond behind a keyword, if that stands there. -/
def CondTo (k f : Nat) (c : Option (List Nat)) (d dp : Int) (c' : Option (List Nat)) (dp' : Int) : Prop := GenRes (c.bind fun ks => if ks.headD 0 = k then R f 1 ks.tail d else some (ks, dp)) c' dp dp'
/-- Columns behind 'group by', if that stands there. -/
def GroupTo (n : Nat) (c c' : Option (List Nat)) : Prop := c' = c.bind fun ks => if ks.headD 0 = 17 then (must 18 ks.tail).bind fun k4 => colsP n k4 else some ks
theorem must_len {k : Nat} {ks r : List Nat} (h : must k ks = some r) : ks.length = r.length + 1 := by
  match ks, h with
  | a :: t, h =>
    by_cases e : a = k
    · have h' : must k (a :: t) = some t := by simp [must, e]
      rw [h'] at h
      obtain rfl := Option.some.inj h; rfl
    · have h' : must k (a :: t) = none := by simp [must, e]
      rw [h'] at h; cases h
theorem srcs_fuel : ∀ (f g : Nat) (ks : List Nat), ks.length < f → ks.length < g → srcsP f ks = srcsP g ks := by
  intro f
  induction f with
  | zero => intro g ks h; omega
  | succ f ih =>
    intro g ks h1 h2
    match g, h2 with
    | g + 1, h2 =>
      unfold srcsP
      cases ha : must 1 ks with
      | none => rfl
      | some a =>
        rw [Option.bind_some, Option.bind_some]
        cases hb : must 1 a with
        | none => rfl
        | some b =>
          rw [Option.bind_some, Option.bind_some]
          have e1 := must_len ha
          have e2 := must_len hb
          split
          · rename_i r
            rw [List.length_cons] at e2
            exact ih g r (by omega) (by omega)
          · rfl
theorem colP_len {ks r : List Nat} (h : colP ks = some r) : ks.length = r.length + 3 := by
  unfold colP at h
  obtain ⟨a, ha, h⟩ := Option.bind_eq_some_iff.1 h
  obtain ⟨c, hc, h⟩ := Option.bind_eq_some_iff.1 h
  have := must_len ha
  have := must_len hc
  have := must_len h
  omega
theorem cols_fuel : ∀ (f g : Nat) (ks : List Nat), ks.length < f → ks.length < g → colsP f ks = colsP g ks := by
  intro f
  induction f with
  | zero => intro g ks h; omega
  | succ f ih =>
    intro g ks h1 h2
    match g, h2 with
    | g + 1, h2 =>
      unfold colsP
      cases ha : colP ks with
      | none => rfl
      | some a =>
        rw [Option.bind_some, Option.bind_some]
        have e1 := colP_len ha
        split
        · rename_i r
          rw [List.length_cons] at e1
          exact ih g r (by omega) (by omega)
        · rfl
theorem cond_none {k f : Nat} {d dp dp' : Int} {c' : Option (List Nat)} (h : CondTo k f none d dp c' dp') : c' = none := h
theorem group_none {n : Nat} {c' : Option (List Nat)} (h : GroupTo n none c') : c' = none := h
/-- The cond of R and the walk's: the same, but for the depth where there is none. -/
theorem cond_same {k f : Nat} {ks : List Nat} {d dp dp' d0 : Int} {c' : Option (List Nat)} (h : CondTo k f (some ks) d dp c' dp') (h0 : d0 ≤ dp) :
    (∃ y, (if ks.headD 0 = k then R f 1 ks.tail d else some (ks, d0)) = some y ∧ c' = some y.1 ∧ dp' = max dp y.2) ∨ ((if ks.headD 0 = k then R f 1 ks.tail d else some (ks, d0)) = none ∧ c' = none) := by
  unfold CondTo at h
  rw [Option.bind_some] at h
  by_cases e : ks.headD 0 = k
  · rw [if_pos e] at h ⊢
    cases hR : R f 1 ks.tail d with
    | none => rw [hR] at h; exact Or.inr ⟨rfl, h⟩
    | some y => rw [hR] at h; exact Or.inl ⟨y, rfl, h.1, h.2⟩
  · rw [if_neg e] at h ⊢
    exact Or.inl ⟨_, rfl, h.1, by rw [h.2]; show max dp dp = max dp d0; omega⟩
theorem query_all {f n : Nat} {K : List Nat} {d deep dp4 dpW dp12 dpH : Int} {cA cB cC cS cW cG cH : Option (List Nat)} {T : Option (List Nat × Int)}
    (hA : cA = must 14 K) (hT : (cA.bind fun ks => L3 f ks (d + 1) (max deep d)) = T) (hT4 : T = cB.bind fun ks => some (ks, dp4)) (hC : cC = cB.bind (must 15)) (hCl : ∀ ks, cC = some ks → ks.length ≤ n)
    (hS : cC.bind (fun ks => srcsP (n + 2) ks) = cS) (hW : CondTo 16 f cS (d + 1) dp4 cW dpW) (hWl : ∀ ks, cW = some ks → ks.length ≤ n) (hG : GroupTo (n + 2) cW cG) (hdp : ∀ ks, cG = some ks → dp12 = dpW) (hH : CondTo 19 f cG (d + 1) dp12 cH dpH) : GenRes (R (f + 1) 2 K d) cH deep dpH := by
  rw [R]
  have fromS : cS = none → cH = none := by
    rintro rfl
    have := cond_none hW; subst this
    have := group_none hG; subst this
    exact cond_none hH
  have fromC : cC = none → cH = none := fun e => fromS (by rw [← hS, e]; rfl)
  have fromB : cB = none → cH = none := fun e => fromC (by rw [hC, e]; rfl)
  have fromT : T = none → cH = none := fun e => fromB (by
    rw [hT4] at e
    cases cB with
    | none => rfl
    | some k => cases e)
  cases hm : must 14 K with
  | none => exact fromT (by rw [← hT, hA, hm]; rfl)
  | some k0 =>
    rw [Option.bind_some]
    rw [hA, hm, Option.bind_some, L3] at hT
    cases hR : R f 3 k0 (d + 1) with
    | none => exact fromT (by rw [← hT, hR]; rfl)
    | some x =>
      rw [hR] at hT
      rw [← hT] at hT4
      rw [Option.bind_some]
      obtain ⟨kB, hB⟩ : ∃ k, cB = some k := by
        cases cB with
        | none => cases hT4
        | some k => exact ⟨k, rfl⟩
      rw [hB, Option.bind_some] at hT4
      simp only [Option.map_some, Option.some.injEq, Prod.mk.injEq] at hT4
      obtain ⟨e1, e2⟩ := hT4
      rw [hB, ← e1, Option.bind_some] at hC
      cases h15 : must 15 x.1 with
      | none => exact fromC (by rw [hC, h15])
      | some k2 =>
        rw [Option.bind_some]
        rw [h15] at hC
        have hl2 := hCl k2 hC
        rw [hC, Option.bind_some, srcs_fuel _ (k2.length + 1) k2 (by omega) (by omega)] at hS
        cases hs3 : srcsP (k2.length + 1) k2 with
        | none => exact fromS (by rw [← hS, hs3])
        | some k3 =>
          rw [Option.bind_some]
          rw [hs3] at hS
          rw [← hS] at hW
          rcases cond_same (d0 := d) hW (by omega) with ⟨y, hy, hcW, hdW⟩ | ⟨hy, hcW⟩
          · rw [hy, Option.bind_some]
            have hl4 := hWl _ hcW
            have hG' : cG = (if y.1.headD 0 = 17 then (must 18 y.1.tail).bind fun k4 => colsP (k4.length + 1) k4 else some y.1) := by
              rw [hG, hcW, Option.bind_some]
              by_cases e17 : y.1.headD 0 = 17
              · rw [if_pos e17, if_pos e17]
                cases h18 : must 18 y.1.tail with
                | none => rfl
                | some k4 =>
                  rw [Option.bind_some, Option.bind_some]
                  have := must_len h18
                  rw [List.length_tail] at this
                  exact cols_fuel _ _ _ (by omega) (by omega)
              · rw [if_neg e17, if_neg e17]
            rw [← hG']
            cases cG with
            | none => exact cond_none hH
            | some k5 =>
              rw [Option.bind_some]
              have hdd := hdp k5 rfl
              rcases cond_same (d0 := d) hH (by omega) with ⟨z, hz, hcH, hdH⟩ | ⟨hz, hcH⟩
              · rw [hz, Option.bind_some]
                refine ⟨hcH, ?_⟩
                rw [hdH, hdd, hdW, ← e2]
                show max (max (max (max deep d) x.2) y.2) z.2 = max deep (max d (max x.2 (max y.2 z.2)))
                omega
              · rw [hz]; exact hcH
          · rw [hy]
            subst hcW
            have := group_none hG; subst this
            exact cond_none hH
end Go.Proofs.YtbkeflgafjnefaaGreatDoor
