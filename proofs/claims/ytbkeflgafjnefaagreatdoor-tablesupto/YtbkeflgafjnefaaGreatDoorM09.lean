/- Towards the law of tables: P2, P3, P4, P5, TreeIs, TreeS. -/
import Derived.Test.YtbkeflgafjnefaaGreatDoorM02
import Derived.Test.YtbkeflgafjnefaaGreatDoorM08
import Derived.Test.YtbkeflgafjnefaaGreatDoorM03
import Derived.Test.YtbkeflgafjnefaaGreatDoorM05
import Derived.Deep.QuietTactic
import Derived.BigQuiet
import Derived.Deep.AppendLies
import Derived.Deep.LoopGhost
import Derived.Deep.DrawnRows
import Derived.Deep.RegionLaw
import Derived.Deep.DeepCutAuto
import Derived.Deep.CutBlock
import Derived.OwnWalk
namespace Go.Proofs.YtbkeflgafjnefaaGreatDoor
open Go.RowKit
open Trib

/-- The scanner in block b: its text, how far it is read, its tokens. -/
def ScIs (w : World) (b : Nat) (s : ByteArray) (k : Nat) (v : Value) : Prop :=
  w.heap[b]? = some (.cells #[.string s, .int .i64 (k : Int), v] 241 (0, 0))
theorem ScIs.lt {w : World} {b : Nat} {s : ByteArray} {k : Nat} {v : Value} (h : ScIs w b s k v) : b < w.heap.size := by
  rcases Nat.lt_or_ge b w.heap.size with h' | h'
  · exact h'
  · rw [ScIs, Array.getElem?_eq_none h'] at h; cases h
theorem ScIs.cells {w : World} {b : Nat} {s : ByteArray} {k : Nat} {v : Value} (h : ScIs w b s k v) :
    w.cell? ⟨b, 0, none⟩ = some (.string s) ∧ w.cell? ⟨b, 1, none⟩ = some (.int .i64 (k : Int)) ∧ w.cell? ⟨b, 2, none⟩ = some v := by
  rw [ScIs] at h
  simp [World.cell?, h]
theorem ScIs.free {w : World} {b : Nat} {s : ByteArray} {k : Nat} {v : Value} (h : ScIs w b s k v) (o : Nat) : w.frozen? ⟨b, o, none⟩ = false := by
  rw [ScIs] at h
  simp [World.frozen?, h]
theorem ScIs.set1 {w : World} {b : Nat} {s : ByteArray} {k : Nat} {v : Value} (h : ScIs w b s k v) (q : Nat) : ScIs (w.setCell ⟨b, 1, none⟩ (.int .i64 (q : Int))) b s q v := heap_setCell h _
theorem ScIs.set2 {w : World} {b : Nat} {s : ByteArray} {k : Nat} {v : Value} (h : ScIs w b s k v) (v' : Value) : ScIs (w.setCell ⟨b, 2, none⟩ v') b s k v' := heap_setCell h _
theorem ScIs.alloc {w : World} {b : Nat} {s : ByteArray} {k : Nat} {v : Value} (h : ScIs w b s k v) (o : Obj) : ScIs (w.alloc o) b s k v :=
  (Below.heap_alloc w o b h.lt).trans h

set_option maxHeartbeats 1000000 in
theorem skipBlanks_any (b : Nat) (s : ByteArray) (k : Nat) (v : Value) (w : World) (h : ScIs w b s k v) (hs : s.size ≤ 1000000) (hk : k ≤ s.size) :
    Calls Tryz.prog 128 #[.pointer (some ⟨b, 0, none⟩)] w fun e w' => e = .returned (.tuple #[]) ∧ ScIs w' b s (spanEnd isBlank s k) v ∧ w.grownBy w' (some b) := by
  generalize hE : spanEnd isBlank s k = E
  have HE := hide hE
  clear hE
  go_enter Tryz.func128, Tryz.ntmps128
  go_wp2_with fail
  go_loopg [] (s.size + 1 - k) (fun n wr => ∃ j : Nat, j ≤ s.size ∧ ScIs wr b s j v ∧ w.grownBy wr (some b) ∧ Hid (spanEnd isBlank s j = E) ∧ s.size - j < n)
  case atStart => exact ⟨k, hk, h, grownBy_refl _ _, HE, by omega⟩
  case round =>
    obtain ⟨j, hj, hsc, hg, hJ, hn⟩ := hrel
    obtain ⟨c0, c1, c2⟩ := hsc.cells
    have hf1 := hsc.free 1
    by_cases hjs : j < s.size
    · have hjs' : (j : Int) < (s.size : Int) := by omega
      cases hcj : isBlank s[j]
      · have HF : Hid (E = j) := hide (hJ.out.symm.trans (spanEnd_stop _ _ _ hjs hcj))
        have hcb : ((s[j].toNat : Int) == 32) = false := by
          simp [isBlank, ← UInt8.toNat_inj] at hcj
          simp; omega
        clear hcj hJ HE hn
        go_wp2_with fail
        go_quiet (fail)
        go_wp2_with fail
        go_end0
        exact ⟨rfl, by rw [HF.out]; exact hsc, hg.trans (grownBy_drewN _ _ _)⟩
      · have HF : Hid (spanEnd isBlank s (j + 1) = E) := hide ((spanEnd_step _ _ _ hjs hcj).symm.trans hJ.out)
        have hcb : ((s[j].toNat : Int) == 32) = true := by
          simp [isBlank, ← UInt8.toNat_inj] at hcj
          simp; omega
        have HN := hide hn
        clear hcj hJ HE hn
        go_wp2_with fail
        go_quiet (fail)
        go_wp2_with fail
        have hn := HN.out
        go_roundg (gk - 1)
        case measure => omega
        case rel => exact ⟨j + 1, by omega, (show ScIs (wr.drewN nq) b s j v from hsc).set1 (j + 1), (hg.trans (grownBy_drewN _ _ _)).trans (grownBy_set _ _ _ _), HF, by omega⟩
    · have hjs' : (s.size : Int) ≤ (j : Int) := by omega
      have HF : Hid (E = j) := hide (hJ.out.symm.trans (spanEnd_out _ _ _ hjs))
      clear hJ HE hn
      go_wp2_with fail
      go_quiet (fail)
      go_wp2_with fail
      go_end0
      exact ⟨rfl, by rw [HF.out]; exact hsc, hg.trans (grownBy_drewN _ _ _)⟩
end Go.Proofs.YtbkeflgafjnefaaGreatDoor
namespace Go.Proofs.YtbkeflgafjnefaaGreatDoor
open Go.RowKit
open Trib
/-- The cells of tokens: each its kind and its text. -/
def tokCells (ts : List ByteArray) : List Value := ts.flatMap fun t => [.int .i64 (kd t : Int), .string t]
theorem infoTok : (Tryz.prog.info? 154).map (fun i => (i.zero, i.size, i.bytes)) = some (some (.agg #[.int .i64 0, .string ⟨#[]⟩]), 2, 24) := by kernel_rfl
theorem tok_new (w : World) (a b : Value) (t : TypeId) : ∀ j u, ([a, b] : List Value)[j]? = some u → (w.alloc (.cells #[a, b] t)).cell? ((⟨w.heap.size, 0, none⟩ : Addr).add j) = some u :=
  World.news_of_block (cs := #[a, b]) (heap_alloc_new w _)
theorem ScIs.grown {w w' : World} {b : Nat} {s : ByteArray} {k : Nat} {v x : Value} {lo n : Nat} {xs : List Value} (h : ScIs w b s k v) (hrow : w.ownsRow lo 154 2 x n xs) (hg : w.grownBy w' x.ownBlock) : ScIs w' b s k v := by
  refine (hg.block b h.lt ?_).trans h
  intro e'
  rcases hrow.2 with ⟨rfl, _⟩ | ⟨g, cap, cur, rfl, _, hgb, _⟩
  · simp [Value.ownBlock] at e'
  · obtain rfl : b = g := by simpa [Value.ownBlock] using e'
    have := (show w.heap[b]? = _ from h).symm.trans hgb
    simp at this
theorem row_setP {w : World} {base c i : Nat} {e t : TypeId} {size n : Nat} {x u : Value} {xs : List Value} {cs : Array Value} (h : w.ownsRow base e size x n xs) (hc : w.heap[c]? = some (.cells cs t (0, 0))) (ht : t ≠ e) : (w.setCell ⟨c, i, none⟩ u).ownsRow base e size x n xs := by
  refine ownsRow_setCell_other h ?_ u
  rcases h.2 with ⟨rfl, _⟩ | ⟨g, cap, cur, rfl, _, hgb, _⟩
  · simp [Value.ownBlock]
  · intro e'
    obtain rfl : g = c := by simpa [Value.ownBlock] using e'
    rw [hc] at hgb
    simp at hgb
    exact ht hgb.2
theorem below_grown {lo : Nat} {w w' : World} {e : TypeId} {size n : Nat} {x : Value} {xs : List Value} (hrow : w.ownsRow lo e size x n xs) (hl : lo ≤ w.heap.size) (hg : w.grownBy w' x.ownBlock) : Below lo w w' :=
  ⟨hg.os, hg.tape, hg.output, hg.size, fun k hk => hg.block k (by omega) (fun e' => by have := (hrow.lt k e'.symm).1; omega)⟩
set_option maxHeartbeats 2000000 in
theorem add_any (lo b : Nat) (s : ByteArray) (k e : Nat) (kn : Int) (v : Value) (n : Nat) (xs : List Value) (w : World) (h : ScIs w b s k v) (hrow : w.ownsRow lo 154 2 v n xs) (hlo : lo ≤ b) (hn : n ≤ 1000000) (_hs : s.size ≤ 1000000) (hk : k ≤ e) (he : e ≤ s.size) :
    Calls Tryz.prog 181 #[.pointer (some ⟨b, 0, none⟩), .int .i64 kn, .int .i64 (e : Int)] w fun x w' => x = .returned (.bool (kn != 0)) ∧ (∃ v', ScIs w' b s e v' ∧ w'.ownsRow lo 154 2 v' (n + 1) (xs ++ [.int .i64 kn, .string (s.extract k e)])) ∧ Below lo w w' := by
  obtain ⟨i0, hi, hz0, hz1, hz2⟩ := info_parts infoTok
  obtain ⟨c0, c1, c2⟩ := h.cells
  have hf1 := h.free 1
  have hf2 := h.free 2
  have hblt := h.lt
  go_enter Tryz.func181, Tryz.ntmps181
  go_wp2_with fail
  go_region_law (refine step_append_lies _ (by rfl) _ _ 97 (by rfl) lo 154 i0 (.agg #[.int .i64 0, .string ⟨#[]⟩]) 2 24 Tryz.underlying97 hi hz0 hz1 hz2 rfl (by decide) v n xs (by rfl) (hrow.alloc _) ⟨w.heap.size, 0, none⟩ 1 1 [.int .i64 kn, .string (s.extract k e)] (by rfl) (by rfl) (tok_new _ _ _ _) (by simp [Value.oneCell']) (by decide) (by unfold maxLen; omega) (by omega) (by simp; omega) (w.heap.size + 1) (by simp) ?_; intro g cap w5 hown5 hgrow5 hat5 hlt5; have hsc5 := ScIs.grown (show ScIs (w.alloc (.cells #[.int .i64 kn, .string (s.extract k e)] 154)).drew b s k v from h.alloc _) (hrow.alloc _).drew hgrow5; obtain ⟨d0, d1, d2⟩ := hsc5.cells; have df1 := hsc5.free 1; have df2 := hsc5.free 2)
  all_goals
    go_wp2_with fail
    go_ret
    have hb5 : Below lo w w5 := (((Below.refl lo w).alloc (by omega) _).drew).trans (below_grown (hrow.alloc _).drew (by simp; omega) hgrow5)
    exact ⟨rfl, ⟨_, (hsc5.set2 _).set1 e, row_setP (row_setP hown5 hsc5 (by decide)) (hsc5.set2 _) (by decide)⟩, (hb5.setCell hlo _).setCell hlo _⟩
end Go.Proofs.YtbkeflgafjnefaaGreatDoor
namespace Go.Proofs.YtbkeflgafjnefaaGreatDoor
open Go.RowKit
open Trib
/-- The kind of the last token; 0: there is none. -/
def lastK (ts : List ByteArray) : Nat := (ts.getLast?.map kd).getD 0
theorem tokCells_snoc (ts : List ByteArray) (t : ByteArray) : tokCells (ts ++ [t]) = tokCells ts ++ [.int .i64 (kd t : Int), .string t] := by simp [tokCells]
theorem tokCells_len (ts : List ByteArray) : (tokCells ts).length = ts.length * 2 := by
  induction ts with
  | nil => rfl
  | cons a r ih =>
    have e : tokCells (a :: r) = [.int .i64 (kd a : Int), .string a] ++ tokCells r := by simp [tokCells]
    rw [e, List.length_append, ih, List.length_cons]
    simp; omega
theorem tokCells_last (ts : List ByteArray) (t : ByteArray) : (tokCells (ts ++ [t]))[ts.length * 2]? = some (.int .i64 (kd t : Int)) := by
  rw [tokCells_snoc, List.getElem?_append_right (by rw [tokCells_len]; exact Nat.le_refl _), tokCells_len, Nat.sub_self]; rfl
set_option maxHeartbeats 2000000 in
theorem lastKind_any (lo b : Nat) (s : ByteArray) (k : Nat) (v : Value) (ts : List ByteArray) (w : World) (h : ScIs w b s k v) (hrow : w.ownsRow lo 154 2 v ts.length (tokCells ts)) (hn : ts.length ≤ 1000000) :
    Calls Tryz.prog 260 #[.pointer (some ⟨b, 0, none⟩)] w fun x w' => x = .returned (.int .i64 (lastK ts : Int)) ∧ ∃ q, w' = w.drewN q := by
  obtain ⟨c0, c1, c2⟩ := h.cells
  rcases List.eq_nil_or_concat ts with rfl | ⟨r, t, rfl⟩
  · have hL : Hid (lastK [] = 0) := hide rfl
    rcases hrow.2 with ⟨rfl, _⟩ | ⟨g, cap, cur, rfl, _⟩
    · go_enter Tryz.func260, Tryz.ntmps260
      go_wp2_with fail
      go_ret
      exact ⟨by rw [hL.out]; rfl, 0, rfl⟩
    · go_enter Tryz.func260, Tryz.ntmps260
      go_wp2_with fail
      go_ret
      exact ⟨by rw [hL.out]; rfl, 0, rfl⟩
  · rw [List.concat_eq_append] at hrow hn ⊢
    have hL : Hid (lastK (r ++ [t]) = kd t) := hide (by simp [lastK])
    have hlen : (r ++ [t]).length = r.length + 1 := by simp
    rw [hlen] at hrow hn
    rcases hrow.2 with ⟨_, h0⟩ | ⟨g, cap, cur, rfl, _⟩
    · cases h0
    · have hc := hrow.cells rfl _ _ (tokCells_last r t)
      rw [Addr.add_lit, Nat.zero_add] at hc
      have hwr : IntKind.i64.wrap (r.length : Int) = r.length := by rw [IntKind.wrap_i64]; omega
      clear hrow hlen
      go_enter Tryz.func260, Tryz.ntmps260
      go_wp2_with fail
      go_quiet (fail)
      go_wp2_with fail
      go_ret
      exact ⟨by rw [hL.out]; rfl, _, rfl⟩
end Go.Proofs.YtbkeflgafjnefaaGreatDoor
namespace Go.Proofs.YtbkeflgafjnefaaGreatDoor
open Go.RowKit
open Trib
def minusB (s : ByteArray) (k K : Nat) : Bool := decide (k + 1 < s.size) && isDig s[k + 1]! && signedK K
set_option maxHeartbeats 2000000 in
theorem isNumbersMinus_any (lo b : Nat) (s : ByteArray) (k : Nat) (v : Value) (ts : List ByteArray) (w : World) (h : ScIs w b s k v) (hrow : w.ownsRow lo 154 2 v ts.length (tokCells ts)) (hn : ts.length ≤ 1000000) (hs : s.size ≤ 1000000) (hk : k < s.size) :
    Calls Tryz.prog 184 #[.pointer (some ⟨b, 0, none⟩)] w fun x w' => x = .returned (.bool (minusB s k (lastK ts))) ∧ ∃ q, w' = w.drewN q := by
  obtain ⟨c0, c1, c2⟩ := h.cells
  have hwr : IntKind.i64.wrap ((k : Int) + 1) = (k : Int) + 1 := by rw [IntKind.wrap_i64]; omega
  by_cases hk1 : k + 1 < s.size
  · have hk1' : ¬ ((k : Int) + 1 = (s.size : Int)) := by omega
    have hk2 : (((k : Int) + 1) == (s.size : Int)) = false := by simpa using hk1'
    have hk3 : (k : Int) + 1 < (s.size : Int) := by omega
    cases hd : isDig s[k + 1]
    · have HD := hide hd
      have HM : Hid (minusB s k (lastK ts) = false) := hide (by rw [minusB, getBang s (k + 1) hk1, hd, Bool.and_false, Bool.false_and])
      clear hd
      go_enter Tryz.func184, Tryz.ntmps184
      go_wp2_with (go_at_call 86; refine (IsDigit_any _ _).mono ?_; rintro e w' ⟨rfl, rfl⟩; rw [HD.out])
      go_ret
      exact ⟨by rw [HM.out]; rfl, 0, rfl⟩
    · have HD := hide hd
      generalize hK : lastK ts = K
      have HM : Hid (minusB s k K = signedK K) := hide (by rw [minusB, getBang s (k + 1) hk1, hd, decide_eq_true hk1, Bool.true_and, Bool.true_and])
      have HK := hide hK
      clear hd hK
      go_enter Tryz.func184, Tryz.ntmps184
      go_upto_region 5 with (first | (go_at_call 86; refine (IsDigit_any _ _).mono ?_; rintro e w' ⟨rfl, rfl⟩; rw [HD.out]) | (go_at_call 260; refine (lastKind_any lo b s k v ts _ h hrow hn).mono ?_; rintro e w' ⟨rfl, q, rfl⟩; rw [HK.out]))
      by_cases e0 : K = 0
      · subst e0
        go_wp2_with fail
        go_ret
        exact ⟨by rw [HM.out]; rfl, _, rfl⟩
      have f0 : ((K : Int) == 0) = false := by simp; omega
      by_cases e4 : K = 4
      · subst e4
        go_wp2_with fail
        go_ret
        exact ⟨by rw [HM.out]; rfl, _, rfl⟩
      have f4 : ((K : Int) == 4) = false := by simp; omega
      by_cases e6 : K = 6
      · subst e6
        go_wp2_with fail
        go_ret
        exact ⟨by rw [HM.out]; rfl, _, rfl⟩
      have f6 : ((K : Int) == 6) = false := by simp; omega
      by_cases e8 : K = 8
      · subst e8
        go_wp2_with fail
        go_ret
        exact ⟨by rw [HM.out]; rfl, _, rfl⟩
      have f8 : ((K : Int) == 8) = false := by simp; omega
      by_cases e9 : K = 9
      · subst e9
        go_wp2_with fail
        go_ret
        exact ⟨by rw [HM.out]; rfl, _, rfl⟩
      have f9 : ((K : Int) == 9) = false := by simp; omega
      by_cases e10 : K = 10
      · subst e10
        go_wp2_with fail
        go_ret
        exact ⟨by rw [HM.out]; rfl, _, rfl⟩
      have f10 : ((K : Int) == 10) = false := by simp; omega
      by_cases e11 : K = 11
      · subst e11
        go_wp2_with fail
        go_ret
        exact ⟨by rw [HM.out]; rfl, _, rfl⟩
      have f11 : ((K : Int) == 11) = false := by simp; omega
      by_cases e12 : K = 12
      · subst e12
        go_wp2_with fail
        go_ret
        exact ⟨by rw [HM.out]; rfl, _, rfl⟩
      have f12 : ((K : Int) == 12) = false := by simp; omega
      by_cases e13 : K = 13
      · subst e13
        go_wp2_with fail
        go_ret
        exact ⟨by rw [HM.out]; rfl, _, rfl⟩
      have f13 : ((K : Int) == 13) = false := by simp; omega
      by_cases hge : 14 ≤ K
      · have hge' : (14 : Int) ≤ (K : Int) := by omega
        have HS : Hid (signedK K = true) := hide (by simp [signedK, hge])
        go_wp2_with fail
        go_ret
        exact ⟨by rw [HM.out, HS.out]; rfl, _, rfl⟩
      · have hge' : (K : Int) < 14 := by omega
        have HS : Hid (signedK K = false) := hide (by simp [signedK, hge, e0, e4, e6, e8, e9, e10, e11, e12, e13])
        go_wp2_with fail
        go_ret
        exact ⟨by rw [HM.out, HS.out]; show Ending.returned (.bool (decide ((14 : Int) ≤ (K : Int)))) = _; rw [decide_eq_false (by omega)], _, rfl⟩
  · have hk1' : (k : Int) + 1 = (s.size : Int) := by omega
    have hk2 : (((k : Int) + 1) == (s.size : Int)) = true := by simpa using hk1'
    have HM : Hid (minusB s k (lastK ts) = false) := hide (by rw [minusB, decide_eq_false hk1, Bool.false_and, Bool.false_and])
    go_enter Tryz.func184, Tryz.ntmps184
    go_wp2_with fail
    go_ret
    exact ⟨by rw [HM.out]; rfl, 0, rfl⟩
end Go.Proofs.YtbkeflgafjnefaaGreatDoor
namespace Go.Proofs.YtbkeflgafjnefaaGreatDoor
open Go.RowKit
open Trib
/-- A pointer that may be nil: of none or of one. -/
def optV : List Value → Value
  | [v] => v
  | _ => .pointer none
def srcCells (l : List (ByteArray × ByteArray)) : List Value := l.flatMap fun s => [.string s.1, .string s.2]
/-- A tree lies in memory, in blocks from lo on: a list as its values, a node or a query as the pointer to it. -/
inductive Is (w : World) (lo : Nat) : Tr → List Value → Prop
  | nil : Is w lo .nil []
  | cons {h t : Tr} {v : Value} {vs : List Value} : Is w lo h [v] → Is w lo t vs → Is w lo (.cons h t) (v :: vs)
  | node {b k : Nat} {src name : ByteArray} {val : Vl} {parts query : Tr} {pv : Value} {vs qs : List Value} {p0 p1 p2 : Int} : lo ≤ b →
      w.heap[b]? = some (.cells #[.int .i64 (k : Int), .string src, .string name, .int .i64 (val.kind : Int), .int .i64 val.num, .string (bytesL val.word), pv, optV qs, .int .i64 p0, .int .i64 p1, .int .i64 p2] 333 (0, 0)) →
      w.ownsRow lo 173 1 pv vs.length vs → Is w lo parts vs → Is w lo query qs → Is w lo (.node k src name val parts query) [.pointer (some ⟨b, 0, none⟩)]
  | query {b : Nat} {exprs wh group having : Tr} {srcs : List (ByteArray × ByteArray)} {ev sv gv : Value} {es ws gs hs : List Value} : lo ≤ b →
      w.heap[b]? = some (.cells #[ev, sv, optV ws, gv, optV hs] 175 (0, 0)) →
      w.ownsRow lo 173 1 ev es.length es → w.ownsRow lo 262 2 sv srcs.length (srcCells srcs) → w.ownsRow lo 173 1 gv gs.length gs →
      Is w lo exprs es → Is w lo wh ws → Is w lo group gs → Is w lo having hs → Is w lo (.query exprs srcs wh group having) [.pointer (some ⟨b, 0, none⟩)]
/-- From lo on, all that was there lies there still. -/
def Stays (lo : Nat) (w w' : World) : Prop := ∀ k, lo ≤ k → k < w.heap.size → w'.heap[k]? = w.heap[k]?
theorem Stays.lt {lo : Nat} {w w' : World} {k : Nat} {o : Obj} (h : Stays lo w w') (hk : lo ≤ k) (ho : w.heap[k]? = some o) : w'.heap[k]? = some o :=
  (h k hk (Array.getElem?_eq_some_iff.1 ho).1).trans ho
theorem Stays.row {lo : Nat} {w w' : World} (hs : Stays lo w w') {e : TypeId} {size n : Nat} {v : Value} {xs : List Value} (h : w.ownsRow lo e size v n xs) : w'.ownsRow lo e size v n xs := by
  refine ⟨h.1, ?_⟩
  rcases h.2 with hn | ⟨g, cap, cur, rfl, hb, hgg, rest⟩
  · exact .inl hn
  · exact .inr ⟨g, cap, cur, rfl, hb, hs.lt hb hgg, rest⟩
theorem Is.kept {lo : Nat} {w w' : World} (hs : Stays lo w w') {t : Tr} {vs : List Value} (h : Is w lo t vs) : Is w' lo t vs := by
  induction h with
  | nil => exact .nil
  | cons _ _ h1 h2 => exact .cons h1 h2
  | node hb hh hr _ _ h1 h2 => exact .node hb (hs.lt hb hh) (hs.row hr) h1 h2
  | query hb hh hr1 hr2 hr3 _ _ _ _ h1 h2 h3 h4 => exact .query hb (hs.lt hb hh) (hs.row hr1) (hs.row hr2) (hs.row hr3) h1 h2 h3 h4
theorem row_low {lo lo' : Nat} (hl : lo' ≤ lo) {w : World} {e : TypeId} {size n : Nat} {v : Value} {xs : List Value} (h : w.ownsRow lo e size v n xs) : w.ownsRow lo' e size v n xs := by
  refine ⟨h.1, ?_⟩
  rcases h.2 with hn | ⟨g, cap, cur, rfl, hb, rest⟩
  · exact .inl hn
  · exact .inr ⟨g, cap, cur, rfl, by omega, rest⟩
theorem Is.low {lo lo' : Nat} (hl : lo' ≤ lo) {w : World} {t : Tr} {vs : List Value} (h : Is w lo t vs) : Is w lo' t vs := by
  induction h with
  | nil => exact .nil
  | cons _ _ h1 h2 => exact .cons h1 h2
  | node hb hh hr _ _ h1 h2 => exact .node (by omega) hh (row_low hl hr) h1 h2
  | query hb hh hr1 hr2 hr3 _ _ _ _ h1 h2 h3 h4 => exact .query (by omega) hh (row_low hl hr1) (row_low hl hr2) (row_low hl hr3) h1 h2 h3 h4
theorem stays_grown {lo b : Nat} {w w' : World} (hg : w.grownBy w' (some b)) (hb : b < lo) : Stays lo w w' := fun k hk hlt => hg.block k hlt (by simp; omega)
theorem stays_alloc (lo : Nat) (w : World) (o : Obj) : Stays lo w (w.alloc o) := fun k _ hlt => Below.heap_alloc w o k hlt
theorem Stays.trans {lo : Nat} {a b c : World} (h1 : Stays lo a b) (h2 : Stays lo b c) (hs : a.heap.size ≤ b.heap.size) : Stays lo a c := fun k hk hlt => (h2 k hk (by omega)).trans (h1 k hk hlt)
theorem stays_set {lo : Nat} (w : World) {b o : Nat} (x : Value) (hb : b < lo) : Stays lo w (w.setCell ⟨b, o, none⟩ x) := fun k hk _ => Below.heap_setCell _ _ _ k (by show k ≠ b; omega)
theorem stays_drewN (lo : Nat) (w : World) (n : Nat) : Stays lo w (w.drewN n) := fun _ _ _ => rfl
/-- Trees as a list, ahead of another. -/
def appT (l : List Tr) (t : Tr) : Tr := l.foldr .cons t
theorem appT_snoc (l : List Tr) (x t : Tr) : appT (l ++ [x]) t = appT l (.cons x t) := by simp [appT]
theorem Is.snoc {w : World} {lo : Nat} {x : Tr} {v : Value} (hx : Is w lo x [v]) : ∀ {l : List Tr} {vs : List Value}, Is w lo (appT l .nil) vs → Is w lo (appT (l ++ [x]) .nil) (vs ++ [v]) := by
  intro l
  induction l with
  | nil => intro vs h; cases h; exact .cons hx .nil
  | cons a r ih => intro vs h; cases h with | cons h1 h2 => exact .cons h1 (ih h2)
end Go.Proofs.YtbkeflgafjnefaaGreatDoor
namespace Go.Proofs.YtbkeflgafjnefaaGreatDoor
open Go.RowKit
open Trib
/-- A row's block is one of these. -/
def InS (S : Nat → Prop) (v : Value) : Prop := ∀ k, v.ownBlock = some k → S k
/-- A tree lies in memory, in blocks of S alone. -/
inductive IsS (w : World) (S : Nat → Prop) : Tr → List Value → Prop
  | nil : IsS w S .nil []
  | cons {h t : Tr} {v : Value} {vs : List Value} : IsS w S h [v] → IsS w S t vs → IsS w S (.cons h t) (v :: vs)
  | node {b k : Nat} {src name : ByteArray} {val : Vl} {parts query : Tr} {pv : Value} {vs qs : List Value} {p0 p1 p2 : Int} : S b →
      w.heap[b]? = some (.cells #[.int .i64 (k : Int), .string src, .string name, .int .i64 (val.kind : Int), .int .i64 val.num, .string (bytesL val.word), pv, optV qs, .int .i64 p0, .int .i64 p1, .int .i64 p2] 333 (0, 0)) →
      w.ownsRow 0 173 1 pv vs.length vs → InS S pv → IsS w S parts vs → IsS w S query qs → IsS w S (.node k src name val parts query) [.pointer (some ⟨b, 0, none⟩)]
  | query {b : Nat} {exprs wh group having : Tr} {srcs : List (ByteArray × ByteArray)} {ev sv gv : Value} {es ws gs hs : List Value} : S b →
      w.heap[b]? = some (.cells #[ev, sv, optV ws, gv, optV hs] 175 (0, 0)) →
      w.ownsRow 0 173 1 ev es.length es → w.ownsRow 0 262 2 sv srcs.length (srcCells srcs) → w.ownsRow 0 173 1 gv gs.length gs → InS S ev → InS S sv → InS S gv →
      IsS w S exprs es → IsS w S wh ws → IsS w S group gs → IsS w S having hs → IsS w S (.query exprs srcs wh group having) [.pointer (some ⟨b, 0, none⟩)]
theorem inS_of {w : World} {lo : Nat} {e : TypeId} {size n : Nat} {v : Value} {xs : List Value} (h : w.ownsRow lo e size v n xs) : InS (fun k => lo ≤ k ∧ k < w.heap.size) v := fun k hk => h.lt k hk
theorem Is.toS {w : World} {lo : Nat} {t : Tr} {vs : List Value} (h : Is w lo t vs) : IsS w (fun k => lo ≤ k ∧ k < w.heap.size) t vs := by
  induction h with
  | nil => exact .nil
  | cons _ _ h1 h2 => exact .cons h1 h2
  | node hb hh hr _ _ h1 h2 => exact .node ⟨hb, (Array.getElem?_eq_some_iff.1 hh).1⟩ hh (row_low (Nat.zero_le _) hr) (inS_of hr) h1 h2
  | query hb hh hr1 hr2 hr3 _ _ _ _ h1 h2 h3 h4 => exact .query ⟨hb, (Array.getElem?_eq_some_iff.1 hh).1⟩ hh (row_low (Nat.zero_le _) hr1) (row_low (Nat.zero_le _) hr2) (row_low (Nat.zero_le _) hr3) (inS_of hr1) (inS_of hr2) (inS_of hr3) h1 h2 h3 h4
theorem row_high {w : World} {lo : Nat} {S : Nat → Prop} (hS : ∀ k, S k → lo ≤ k) {e : TypeId} {size n : Nat} {v : Value} {xs : List Value} (h : w.ownsRow 0 e size v n xs) (hi : InS S v) : w.ownsRow lo e size v n xs := by
  refine ⟨h.1, ?_⟩
  rcases h.2 with hn | ⟨g, cap, cur, rfl, _, rest⟩
  · exact .inl hn
  · exact .inr ⟨g, cap, cur, rfl, hS g (hi g rfl), rest⟩
theorem IsS.toIs {w : World} {lo : Nat} {S : Nat → Prop} (hS : ∀ k, S k → lo ≤ k) {t : Tr} {vs : List Value} (h : IsS w S t vs) : Is w lo t vs := by
  induction h with
  | nil => exact .nil
  | cons _ _ h1 h2 => exact .cons h1 h2
  | node hb hh hr hi _ _ h1 h2 => exact .node (hS _ hb) hh (row_high hS hr hi) h1 h2
  | query hb hh hr1 hr2 hr3 i1 i2 i3 _ _ _ _ h1 h2 h3 h4 => exact .query (hS _ hb) hh (row_high hS hr1 i1) (row_high hS hr2 i2) (row_high hS hr3 i3) h1 h2 h3 h4
theorem IsS.mono {w : World} {S S' : Nat → Prop} (hS : ∀ k, S k → S' k) {t : Tr} {vs : List Value} (h : IsS w S t vs) : IsS w S' t vs := by
  induction h with
  | nil => exact .nil
  | cons _ _ h1 h2 => exact .cons h1 h2
  | node hb hh hr hi _ _ h1 h2 => exact .node (hS _ hb) hh hr (fun k e => hS k (hi k e)) h1 h2
  | query hb hh hr1 hr2 hr3 i1 i2 i3 _ _ _ _ h1 h2 h3 h4 => exact .query (hS _ hb) hh hr1 hr2 hr3 (fun k e => hS k (i1 k e)) (fun k e => hS k (i2 k e)) (fun k e => hS k (i3 k e)) h1 h2 h3 h4
theorem row_keptS {w w' : World} {S : Nat → Prop} (hk : ∀ k, S k → w'.heap[k]? = w.heap[k]?) {e : TypeId} {size n : Nat} {v : Value} {xs : List Value} (h : w.ownsRow 0 e size v n xs) (hi : InS S v) : w'.ownsRow 0 e size v n xs := by
  refine ⟨h.1, ?_⟩
  rcases h.2 with hn | ⟨g, cap, cur, rfl, h0, hg, rest⟩
  · exact .inl hn
  · exact .inr ⟨g, cap, cur, rfl, h0, (hk g (hi g rfl)).trans hg, rest⟩
theorem IsS.kept {w w' : World} {S : Nat → Prop} (hk : ∀ k, S k → w'.heap[k]? = w.heap[k]?) {t : Tr} {vs : List Value} (h : IsS w S t vs) : IsS w' S t vs := by
  induction h with
  | nil => exact .nil
  | cons _ _ h1 h2 => exact .cons h1 h2
  | node hb hh hr hi _ _ h1 h2 => exact .node hb ((hk _ hb).trans hh) (row_keptS hk hr hi) hi h1 h2
  | query hb hh hr1 hr2 hr3 i1 i2 i3 _ _ _ _ h1 h2 h3 h4 => exact .query hb ((hk _ hb).trans hh) (row_keptS hk hr1 i1) (row_keptS hk hr2 i2) (row_keptS hk hr3 i3) i1 i2 i3 h1 h2 h3 h4
theorem IsS.snoc {w : World} {S : Nat → Prop} {x : Tr} {v : Value} (hx : IsS w S x [v]) : ∀ {l : List Tr} {vs : List Value}, IsS w S (appT l .nil) vs → IsS w S (appT (l ++ [x]) .nil) (vs ++ [v]) := by
  intro l
  induction l with
  | nil => intro vs h; cases h; exact .cons hx .nil
  | cons a r ih => intro vs h; cases h with | cons h1 h2 => exact .cons h1 (ih h2)
end Go.Proofs.YtbkeflgafjnefaaGreatDoor
