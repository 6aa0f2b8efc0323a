/- Towards the law of tables: L4, L5, L6, L7, L8, L9. -/
import Derived.Test.YtbkeflgafjnefaaGreatDoorM38
import Derived.Laws.AppendOwnNone
import Derived.Deep.QuietTactic
import Derived.BigQuiet
namespace Go.Proofs.YtbkeflgafjnefaaGreatDoor
open Go.RowKit
open Trib
def strs (l : List ByteArray) : List Value := l.map Value.string
theorem strs_at {l : List ByteArray} {i : Nat} (h : i < l.length) : (strs l)[i]? = some (.string l[i]) := by
  unfold strs; rw [List.getElem?_map, List.getElem?_eq_getElem h]; rfl
theorem strs_len (l : List ByteArray) : (strs l).length = l.length := by unfold strs; rw [List.length_map]
def spareB : ByteArray := ⟨#[115, 112, 97, 114, 101]⟩
theorem StrIn.to {w w' : World} {v : Value} {l : List ByteArray} (h : StrIn w v l) (hq : ∀ q off cap, v = .slice (some ⟨q, off, none⟩) l.length cap → l ≠ [] → w'.heap[q]? = w.heap[q]? ∧ q < w'.heap.size) : StrIn w' v l := by
  obtain ⟨a, cap, e, h | ⟨q, off, e1, e2, e3⟩⟩ := h
  · exact ⟨a, cap, e, .inl h⟩
  · subst e1
    by_cases hl : l = []
    · exact ⟨_, cap, e, .inl hl⟩
    obtain ⟨h1, h2⟩ := hq q off cap e hl
    exact ⟨_, cap, e, .inr ⟨q, off, rfl, h2, fun i hi => (World.cell?_of_block h1).trans (e3 i hi)⟩⟩
/-- The cells of strings that came in. -/
theorem StrIn.cells {w : World} {a : Addr} {cap : Nat} {l : List ByteArray} (h : StrIn w (.slice (some a) l.length cap) l) : ∀ j u, (strs l)[j]? = some u → w.cell? (a.add j) = some u := by
  intro j u hu
  have hj := (List.getElem?_eq_some_iff.1 hu).1
  rw [strs_len] at hj
  rw [strs_at hj] at hu
  obtain rfl := Option.some.inj hu
  obtain ⟨a', c, e, h | ⟨q', off', e1, _, e3⟩⟩ := h
  · subst h; simp at hj
  · injection e with e4
    rw [e1] at e4
    injection e4 with e4
    subst e4
    rw [Addr.add_lit]
    exact e3 j hj
section
variable {F : Nat → Prop} {w : World} {b : Nat} {g : Eng} {N : Nat} (h : PairAt F w b g) (ok : EngOk N g) (hN : N ≤ 1000000000) (o : StepD) (so : StepOk w o) (B0 : Nat) (hFB : ∀ k, F k → B0 ≤ k) (hB0 : B0 ≤ w.heap.size) (hlb : ∀ q off cap, o.lv = .slice (some ⟨q, off, none⟩) o.l.length cap → o.l ≠ [] → q < B0)
include h ok hN so hFB hB0 hlb
set_option maxHeartbeats 8000000 in
set_option maxRecDepth 100000 in
theorem linsert_any : Calls Tryz.prog 110 #[.pointer (some ⟨b, 0, none⟩), .agg o.cells] w (TabP F w b (insertE g o.s o.l).2.2) := by
  obtain ⟨c, x, y, t, s, hP⟩ := h
  obtain ⟨kind, a, n, S, T, lv, l⟩ := o
  have hW : Below w.heap.size w (w.alloc (.cells #[.int .i64 kind, .int .i64 a, .int .i64 n, .string S, .string T, lv] 81)) := (Below.refl _ _).alloc (Nat.le_refl _) _
  have hbox := heap_alloc_new w (.cells #[.int .i64 kind, .int .i64 a, .int .i64 n, .string S, .string T, lv] 81)
  have hP0 : PairC (cut F w) c (w.alloc (.cells #[.int .i64 kind, .int .i64 a, .int .i64 n, .string S, .string T, lv] 81)) b x y t s g g := hP.move (fun k hk hF => ⟨⟨hF, hk⟩, hW.block k hk⟩)
  have hs1 : S.size ≤ 2000000 := so.s
  have hl : l.length ≤ 2000000 := so.l
  have HLS : Hid (∀ x ∈ l, x.size ≤ 2000000) := hide so.ls
  have hin : StrIn (w.alloc (.cells #[.int .i64 kind, .int .i64 a, .int .i64 n, .string S, .string T, lv] 81)) lv l := so.lv.move (fun q hq => hW.block q hq) hW.size
  have HLN : Hid (lv = .slice none 0 0 ∨ ∃ a cap, lv = .slice (some a) l.length cap) := hide so.ln
  have HLB : Hid (∀ q off cap, lv = .slice (some ⟨q, off, none⟩) l.length cap → l ≠ [] → q < B0) := hide hlb
  have HFB := hide hFB
  have HB0 := hide hB0
  clear hlb hFB hB0
  have HNUM := hide num_any
  have HW := hide hW
  obtain ⟨i0, hii, hz0, hz1, hz2⟩ := info_parts infoString
  clear hP hW so
  show Calls Tryz.prog _ #[.pointer (some ⟨b, 0, none⟩), .agg #[.int .i64 kind, .int .i64 a, .int .i64 n, .string S, .string T, lv]] w (TabP F w b (insertE g S l).2.2)
  go_enter Tryz.func110, Tryz.ntmps110
  go_upto_region 1 with fail
  have HBX := hide hbox
  generalize w.alloc (.cells #[.int .i64 kind, .int .i64 a, .int .i64 n, .string S, .string T, lv] 81) = W at *
  have z0 : w.heap.size < W.heap.size := (Array.getElem?_eq_some_iff.1 HBX.out).1
  generalize hB : w.heap.size = B at *
  have HBB := hide hB
  clear hB hbox
  have q5 : W.cell? ⟨B, 5, none⟩ = some lv := blkCell HBX.out (i := 5) rfl
  go_cut [5] (fun v5 wr => wr.ownsRow W.heap.size 9 1 v5 l.length (strs l) ∧ Below W.heap.size W wr)
  case first =>
    rcases HLN.out with rfl | ⟨ad, cap, rfl⟩
    · have h0 : l = [] := by
        obtain ⟨a', c', e, _⟩ := hin
        injection e with _ e2 _
        exact List.eq_nil_of_length_eq_zero e2.symm
      subst h0
      go_wp2_with (at_builtin; refine wpList_append_own_none rfl _ _ 41 rfl W.heap.size 9 i0 1 Tryz.underlying41 hii _ 0 [] rfl (World.ownsRow_made W #[] 0 (Nat.le_refl _) (Nat.zero_le _) rfl) rfl ?_)
      go_meet
      case rel => exact ⟨World.ownsRow_made W #[] 0 (Nat.le_refl _) (Nat.zero_le _) rfl, (Below.refl _ _).alloc (Nat.le_refl _) _⟩
    · have HCL := hide hin.cells
      have hqW : Hid (∀ (j : Nat) u, (strs l)[j]? = some u → (W.alloc (.cells #[] 9)).cell? (ad.add j) = some u) := hide (fun j u hu => Lib.cell?_alloc_some _ (HCL.out j u hu))
      have H1 : Hid (∀ u ∈ strs l, u.oneCell' = true) := hide (fun u hu => by
        unfold strs at hu
        obtain ⟨x, _, rfl⟩ := List.mem_map.1 hu
        rfl)
      have HLE := hide (show (strs l).length = l.length * 1 by rw [strs_len]; omega)
      go_wp2_with (at_builtin; refine wpList_append_own _ rfl _ _ 41 rfl W.heap.size 9 i0 (.string ⟨#[]⟩) 1 16 Tryz.underlying41 hii hz0 hz1 hz2 rfl (by decide) (.slice (some ⟨W.heap.size, 0, none⟩) 0 0) 0 [] rfl (World.ownsRow_made W #[] 0 (Nat.le_refl _) (Nat.zero_le _) rfl) ad l.length cap (strs l) rfl HLE.out hqW.out H1.out (by unfold maxLen; omega) (by omega) (by simp) ?_; intro v1 w1 hown1 hgrow1 _)
      go_meet
      case rel =>
        rw [Nat.zero_add, List.nil_append] at hown1
        exact ⟨hown1, ((Below.refl _ _).alloc (Nat.le_refl _) _).grown hgrow1 (by simp) (fun k e => Nat.le_of_eq (show W.heap.size = k by simpa [Value.ownBlock] using e))⟩
  case rest =>
    obtain ⟨wA, rfl⟩ : ∃ x, x = wc := ⟨wc, rfl⟩
    obtain ⟨hown5, hbA⟩ := hcut
    obtain ⟨a5, cap5, rfl⟩ := rowShape hown5
    have zA := hbA.size
    have hBA := hbA.block B z0
    have HIN := hide hin
    clear hin q5
    go_upto_region 3 with (at_builtin; refine wpList_append_lies _ rfl _ _ 41 rfl W.heap.size 9 i0 (.string ⟨#[]⟩) 1 16 Tryz.underlying41 hii hz0 hz1 hz2 rfl (by decide) _ _ _ rfl (hown5.alloc _) ⟨wA.heap.size, 0, none⟩ 1 1 [.string ⟨#[115, 112, 97, 114, 101]⟩] rfl rfl (one_new _ _ _) (by simp [Value.oneCell']) (by decide) (by unfold maxLen; omega) (by omega) (by simp; omega) (wA.heap.size + 1) (by simp) ?_; intro gl cl wC hownC hgrowC hatC hltC)
    have hbC : Below W.heap.size W wC := (hbA.alloc zA _).grown hgrowC (by simp; omega) (fun k hk => (hown5.lt k hk).1)
    have zC := hbC.size
    have hglo : W.heap.size ≤ gl := (hownC.lt gl rfl).1
    have hBC := hbC.block B z0
    have hPC : PairC (cut F w) c wC b x y t s g g := hP0.move (Mov.stay hbC)
    have q0 : wC.cell? ⟨b, 0, none⟩ = some (.pointer (some ⟨x, 0, none⟩)) := hPC.1.cell (i := 0) rfl
    have q3 : wC.cell? ⟨B, 3, none⟩ = some (.string S) := blkCell (hBC.trans HBX.out) (i := 3) rfl
    have q5 : wC.cell? ⟨B, 5, none⟩ = some lv := blkCell (hBC.trans HBX.out) (i := 5) rfl
    have hP1 : PairC (cut F w) c wC.drew b x y t s g g := hPC.move (fun k _ hF => ⟨hF, rfl⟩)
    have hstr : StrAt wC.drew gl l := fun i hi => by
      have := rowCell (rowLow (Nat.zero_le _) hownC) (i := i) (x := .string l[i]) (by rw [List.getElem?_append_left (by rw [strs_len]; exact hi)]; exact strs_at hi)
      exact this
    have HC := hide (einsert_any hP1.2.1 ok hN S gl cl l hstr hltC hl HLS.out)
    have hwW : Below w.heap.size w W := by have := HW.out; rw [HBB.out]; exact this
    have HW2 : Hid (Below w.heap.size w wC.drew) := hide ((hwW.trans (hbC.mono (by have := HBB.out; omega))).drew)
    have HK : Hid (∀ w1, Stp (colr (cut F w) c 1) wC.drew w1 → w1.cell? ⟨b, 0, none⟩ = some (.pointer (some ⟨x, 0, none⟩)) ∧ w1.cell? ⟨B, 3, none⟩ = some (.string S) ∧ w1.cell? ⟨B, 5, none⟩ = some lv ∧ w1.heap[B]? = some (.cells #[.int .i64 kind, .int .i64 a, .int .i64 n, .string S, .string T, lv] 81 (0, 0)) ∧ w1.heap[gl]? = wC.heap[gl]? ∧ StrIn w1 lv l) := hide (fun w1 hs => by
      have eb : w1.heap[b]? = wC.heap[b]? := hs.block b hPC.1.lt (fun hc => by have a := hc.2; have b := hPC.1.1.2; omega)
      have eB : w1.heap[B]? = wC.heap[B]? := hs.block B (Nat.lt_of_lt_of_le z0 zC) (fun hc => by have a := hc.1.2; have b := HBB.out; omega)
      have eg : w1.heap[gl]? = wC.heap[gl]? := hs.block gl hltC (fun hc => by have a := hc.1.2; have b := HBB.out; omega)
      refine ⟨(World.cell?_of_block eb).trans q0, (World.cell?_of_block eB).trans q3, (World.cell?_of_block eB).trans q5, eB.trans (hBC.trans HBX.out), eg, HIN.out.to (fun q off cap e hne => ?_)⟩
      have hqB := HLB.out q off cap e hne
      have hB0 := HB0.out
      have hBB := HBB.out
      have hqW : q < W.heap.size := by omega
      have hsz : wC.heap.size ≤ w1.heap.size := hs.size
      refine ⟨(hs.block q (Nat.lt_of_lt_of_le hqW zC) (fun hc => ?_)).trans (hbC.block q hqW), by omega⟩
      have := HFB.out q hc.1.1
      omega)
    have HP := hide hP1
    have hlc : (l.length : Int) ≤ (cl : Int) := by
      rcases hownC.2 with ⟨e', _⟩ | ⟨g', cap', cur, e', _, _, hcap, _⟩
      · cases e'
      · obtain rfl : cl = cap' := (Value.slice.inj e').2.2
        omega
    have hlc' : l.length ≤ cl := by omega
    have hl0 : (0 : Int) ≤ (l.length : Int) := by omega
    obtain ⟨lva, lvc, rfl⟩ : ∃ a c, lv = .slice a l.length c := by
      obtain ⟨a', c', e, _⟩ := HIN.out
      exact ⟨a', c', e⟩
    clear hP0 hP1 hPC hstr hown5 hgrowC hatC hwW hbA
    go_region_held3 (fun w' => w'.cell? ⟨b, 0, none⟩ = some (.pointer (some ⟨x, 0, none⟩)) ∧ w'.cell? ⟨B, 3, none⟩ = some (.string S) ∧ w'.cell? ⟨B, 5, none⟩ = some (.slice lva l.length lvc)) (go_keep) (first | (go_at_call 39; refine HC.out.mono ?_; rintro e w1 ⟨rfl, hE1, hS1⟩; obtain ⟨r0, r3, r5, rB, rG, rI⟩ := HK.out w1 hS1))
    have z1 : B < wC.drew.heap.size := Nat.lt_of_lt_of_le z0 zC
    have zg : gl < wC.drew.heap.size := hltC
    have HG : Hid (∀ (w' : World), w'.heap[gl]? = wC.heap[gl]? → w'.ownsRow 0 9 1 (.slice (some ⟨gl, 0, none⟩) (l.length + 1) cl) (l.length + 1) (strs l ++ [.string ⟨#[115, 112, 97, 114, 101]⟩])) := hide (fun w' he => (RowF.keep (F := fun _ => True) (F' := fun _ => True) ⟨ownsRow_low hownC, fun _ _ => trivial⟩ (fun k _ hk _ _ _ => ⟨trivial, by
      have e : gl = k := by simpa [Value.ownBlock] using hk
      rw [← e]; exact he⟩)).1)
    generalize wC.heap[gl]? = BG at *
    generalize wC.drew = W0 at *
    obtain ⟨hPL, hSL⟩ := HP.out.left hE1 hS1
    have hP2 : PairC (Gro (cut F w) W0) (cNew c W0 1) w1.drew b x y t s _ g := hPL.move (fun k _ hF => ⟨hF, rfl⟩)
    have hz1 : W0.heap.size ≤ w1.heap.size := hS1.size
    have HC2 := hide (rinsert_any hP2.2.2 ok hN S (.slice lva l.length lvc) l rI HLS.out)
    have r1 : w1.cell? ⟨b, 1, none⟩ = some (.pointer (some ⟨y, 0, none⟩)) := hPL.1.cell (i := 1) rfl
    have hgF : ¬ Gro (Gro (cut F w) W0) w1.drew gl := by
      have hBB := HBB.out
      rintro (⟨_, ⟨_, h1⟩ | h1⟩ | h1)
      · have := h1.2; omega
      · omega
      · have : w1.heap.size ≤ gl := h1
        omega
    have HEND : Hid (∀ w2, REngAt (Gro (colr (Gro (cut F w) W0) (cNew c W0 1) 2) w1.drew) w2 y (.slice none 0 0) (.slice none 0 0) (insertE g S l).2.2 → Stp (colr (Gro (cut F w) W0) (cNew c W0 1) 2) w1.drew w2 → ∀ wz, w2.grownBy wz (some gl) → PairAt (Gro F w) wz b (insertE g S l).2.2 ∧ Stp F w wz) := hide (fun w2 hr hs wz hgz => by
      obtain ⟨hPR, hSR⟩ := hP2.right hr hs
      obtain ⟨_, hSE⟩ := pair_end HW2.out hPR (hSL.trans ⟨rfl, rfl, rfl, Nat.le_refl _, fun _ _ _ => rfl⟩) hSR
      have hWz := HW2.out.size
      refine ⟨PairAt.move ⟨_, x, y, t, s, hPR⟩ (fun k hk hF => ⟨?_, hgz.block k hk (fun e => hgF (by obtain rfl := Option.some.inj e; exact hF))⟩), hSE.trans (Stp.grown hgz (fun k e => by obtain rfl := Option.some.inj e; exact Gro.new (by have := HBB.out; omega)))⟩
      have h1 := Gro.gro (show W0.heap.size ≤ w1.drew.heap.size from hz1) hF
      rcases h1 with ⟨_, h1, h2⟩ | h1
      · exact .inl ⟨h2, h1⟩
      · exact .inr (by omega))
    have HK2 : Hid (∀ w2, Stp (colr (Gro (cut F w) W0) (cNew c W0 1) 2) w1.drew w2 → w2.cell? ⟨b, 1, none⟩ = some (.pointer (some ⟨y, 0, none⟩)) ∧ w2.cell? ⟨B, 3, none⟩ = some (.string S) ∧ w2.cell? ⟨B, 5, none⟩ = some (.slice lva l.length lvc) ∧ w2.heap[gl]? = BG ∧ StrIn w2 (.slice lva l.length lvc) l ∧ B < w2.heap.size) := hide (fun w2 hs => by
      have eb : w2.heap[b]? = w1.heap[b]? := hs.block b hPL.1.lt (fun hc => by have a := hc.2; have b := hPL.1.1.2; omega)
      have hBl : B < w1.heap.size := by omega
      have hno : ∀ k, k < W0.heap.size → ¬ cut F w k → ¬ colr (Gro (cut F w) W0) (cNew c W0 1) 2 k := fun k hk hc hcc => by
        rcases hcc.1 with ⟨_, h1⟩ | h1
        · exact hc h1
        · omega
      have eB : w2.heap[B]? = w1.heap[B]? := hs.block B hBl (hno B z1 (fun hc => by have a := hc.2; have b := HBB.out; omega))
      have eg : w2.heap[gl]? = w1.heap[gl]? := hs.block gl (by show gl < w1.heap.size; omega) (hno gl zg (fun hc => by have a := hc.2; have b := HBB.out; omega))
      have hsz : w1.heap.size ≤ w2.heap.size := hs.size
      refine ⟨(World.cell?_of_block eb).trans r1, (World.cell?_of_block eB).trans r3, (World.cell?_of_block eB).trans r5, eg.trans rG, rI.to (fun q off cap e hne => ?_), by omega⟩
      have hqB := HLB.out q off cap e hne
      have hB0 := HB0.out
      refine ⟨hs.block q (by show q < w1.heap.size; omega) (hno q (by omega) (fun hc => by have := HFB.out q hc.1; omega)), by omega⟩)
    clear hPL hSL hP2 hE1 hS1 HK HC HP q0 q3 q5 r0 hgF rB
    generalize insertE g S l = RES at *
    go_upto_region 4 with fail
    go_region_held3 (fun w' => w'.cell? ⟨b, 1, none⟩ = some (.pointer (some ⟨y, 0, none⟩)) ∧ w'.cell? ⟨B, 3, none⟩ = some (.string S) ∧ w'.cell? ⟨B, 5, none⟩ = some (.slice lva l.length lvc)) (go_keep) (first | (go_at_call 168; refine HC2.out.mono ?_; rintro e w2 ⟨rfl, hE2, hS2⟩; obtain ⟨s1, s3, s5, sG, sI, sB⟩ := HK2.out w2 hS2))
    have hrow2 := HG.out w2 sG
    have spc : w2.cell? ⟨gl, l.length, none⟩ = some (.string ⟨#[115, 112, 97, 114, 101]⟩) := rowCell hrow2 (by rw [List.getElem?_append_right (by rw [strs_len]; exact Nat.le_refl _), strs_len, Nat.sub_self]; rfl)
    have hl1 : (l.length : Int) < ((l.length : Int) + 1) := by omega
    have HFIN := hide (HEND.out w2 hE2 hS2)
    have HSI := hide sI
    have HR2 := hide hrow2
    clear HEND HK2 HC2 hE2 hS2 sI hrow2 r1 r3 r5 s1 s3
    go_wp2_with (go_at_call 108; refine (HNUM.out _ w2).mono ?_; rintro e w3 ⟨rfl, rfl⟩)
    clear HNUM sG rG rI hlc HG HIN HBX HW HLN HLS
    have hglt2 : gl < w2.heap.size := (HR2.out.lt gl rfl).2
    go_loopg [10, 11] (l.length + 1) (fun p okv ix wr => ∃ (j : Nat), j ≤ l.length ∧ ix = .int .i64 (j : Int) ∧ okv = .bool true ∧ Below w2.heap.size w2 wr ∧ l.length - j < p)
    case atStart => exact ⟨0, Nat.zero_le _, rfl, by rfl, Below.refl _ _, by omega⟩
    case round =>
      obtain ⟨j, hj, rfl, rfl, hbr, hp⟩ := hrel
      have HP := hide hp
      clear hp
      have c5 := cell_below hbr s5 sB
      by_cases hlt : j < l.length
      · have hltI : (j : Int) < (l.length : Int) := by omega
        have hltJ : (j : Int) < (l.length : Int) + 1 := by omega
        have hwj : IntKind.i64.wrap ((j : Int) + 1) = (j : Int) + 1 := by rw [IntKind.wrap_i64]; omega
        have cg : wr.cell? ⟨gl, j, none⟩ = some (.string l[j]) := cell_below hbr (rowCell HR2.out (by rw [List.getElem?_append_left (by rw [strs_len]; exact hlt)]; exact strs_at hlt)) hglt2
        obtain ⟨q, off, rfl, hq2, hcells⟩ : ∃ q off, lva = some ⟨q, off, none⟩ ∧ q < w2.heap.size ∧ ∀ i (h : i < l.length), w2.cell? ⟨q, off + i, none⟩ = some (.string l[i]) := by
          obtain ⟨a', c', e, h | ⟨q, off, e1, e2, e3⟩⟩ := HSI.out
          · subst h; simp at hlt
          · injection e with e4 _ _
            exact ⟨q, off, e4.trans e1, e2, e3⟩
        have cq := cell_below hbr (hcells j hlt) hq2
        clear hcells spc s5
        generalize l[j] = lj at *
        go_upto_region 9 with fail
        go_quiet (fail)
        go_wp2_with fail
        have hp := HP.out
        go_roundg (l.length - j)
        case measure => omega
        case rel => exact ⟨j + 1, by omega, by go_num, rfl, hbr.trans ⟨rfl, rfl, rfl, Nat.le_refl _, fun _ _ => rfl⟩, by omega⟩
      · obtain ⟨wE, rfl⟩ : ∃ x, x = wr := ⟨wr, rfl⟩
        have hltI : (l.length : Int) ≤ (j : Int) := by omega
        have zE := hbr.size
        have hrE := rowBel HR2.out hbr
        have HGE : Hid (∀ wz, wE.grownBy wz (some gl) → w2.grownBy wz (some gl)) := hide (fun wz hg => ⟨hg.os.trans hbr.os, hg.tape.trans hbr.tape, hg.output.trans hbr.output, Nat.le_trans hbr.size hg.size, fun k hk hn => (hg.block k (Nat.lt_of_lt_of_le hk zE) hn).trans (hbr.block k hk)⟩)
        clear HP spc s5
        go_wp2_with fail
        go_loopg [12] (l.length + 2) (fun p ix wr => ∃ (m : Nat) (xs : List Value), m ≤ l.length + 1 ∧ ix = .int .i64 (m : Int) ∧ wr.ownsRow 0 9 1 (.slice (some ⟨gl, 0, none⟩) (l.length + 1) cl) (l.length + 1) xs ∧ wE.grownBy wr (some gl) ∧ l.length + 1 - m < p)
        case atStart => exact ⟨0, _, Nat.zero_le _, rfl, hrE, ⟨rfl, rfl, rfl, Nat.le_refl _, fun _ _ _ => rfl⟩, by omega⟩
        case round =>
          obtain ⟨m, xs, hm, rfl, hrow, hgr, hp⟩ := hrel
          have HP := hide hp
          clear hp
          by_cases hmlt : m < l.length + 1
          · have hmI : (m : Int) < (l.length : Int) + 1 := by omega
            have hwm : IntKind.i64.wrap ((m : Int) + 1) = (m : Int) + 1 := by rw [IntKind.wrap_i64]; omega
            have hxl : m < xs.length := by have := hrow.1; omega
            have cm : wr.cell? ⟨gl, m, none⟩ = some xs[m] := rowCell hrow (List.getElem?_eq_getElem hxl)
            have fm := hrow.frozenAt m
            have hst := hrow.stored m (.string ⟨#[39, 109, 97, 114, 107, 39]⟩)
            have HST := hide hst
            clear hst
            go_wp2_with fail
            have hp := HP.out
            have hst := HST.out
            go_roundg (l.length + 1 - m)
            case measure => omega
            case rel => exact ⟨m + 1, _, by omega, by go_num, hst.1, ⟨hst.2.os.trans hgr.os, hst.2.tape.trans hgr.tape, hst.2.output.trans hgr.output, Nat.le_trans hgr.size hst.2.size, fun k hk hn => (hst.2.block k (Nat.lt_of_lt_of_le hk hgr.size) hn).trans (hgr.block k hk hn)⟩, by omega⟩
          · have hmI : (l.length : Int) + 1 ≤ (m : Int) := by omega
            have HZ := hide (HFIN.out wr (HGE.out wr hgr))
            clear HP hrow
            go_wp2_with fail
            go_ret
            exact ⟨rfl, HZ.out⟩
end
end Go.Proofs.YtbkeflgafjnefaaGreatDoor
namespace Go.Proofs.YtbkeflgafjnefaaGreatDoor
open Go.RowKit
open Trib
theorem StepOk.move {w w' : World} {o : StepD} (so : StepOk w o) (hb : Below w.heap.size w w') : StepOk w' o := ⟨so.s, so.t, so.l, so.ls, so.a0, so.a1, so.lv.move (fun q hq => hb.block q hq) hb.size, so.ln⟩
theorem PairAt.cut {F : Nat → Prop} {w W : World} {b : Nat} {g : Eng} (h : PairAt F w b g) (hW : Below w.heap.size w W) : PairAt (cut F w) W b g := h.move (fun k hk hF => ⟨⟨hF, hk⟩, hW.block k hk⟩)
section
variable {F : Nat → Prop} {w : World} {b : Nat} {g : Eng} {N : Nat} (h : PairAt F w b g) (ok : EngOk N g) (hN : N ≤ 1000000000) (hg : Glob w) (o : StepD) (so : StepOk w o) (B0 : Nat) (h8 : 8 ≤ B0) (hFB : ∀ k, F k → B0 ≤ k) (hB0 : B0 ≤ w.heap.size) (hlb : ∀ q off cap, o.lv = .slice (some ⟨q, off, none⟩) o.l.length cap → o.l ≠ [] → q < B0)
include h ok hN so hFB hB0 hlb
set_option maxHeartbeats 8000000 in
set_option maxRecDepth 100000 in
theorem ltab_insert (hk : o.kind = 4) : Calls Tryz.prog 62 #[.pointer (some ⟨b, 0, none⟩), .agg o.cells] w (TabP F w b (stepE g o)) := by
  have hse : stepE g o = (insertE g o.s o.l).2.2 := by unfold stepE; simp [hk]
  rw [hse]
  have hW : Below w.heap.size w (w.alloc (.cells o.cells 81)) := (Below.refl _ _).alloc (Nat.le_refl _) _
  have HC := hide (linsert_any (h.cut hW) ok hN o (so.move hW) B0 (fun k hk => hFB k hk.1) (Nat.le_trans hB0 hW.size) hlb)
  have hbox := heap_alloc_new w (.cells o.cells 81)
  have HU : Hid (∀ w', PairAt (Gro (cut F w) (w.alloc (.cells o.cells 81))) w' b (insertE g o.s o.l).2.2 → Stp (cut F w) (w.alloc (.cells o.cells 81)) w' → TabP F w b (insertE g o.s o.l).2.2 (.returned (.bool true)) w') := hide (fun w' h1 h2 => ⟨rfl, tab_up hW h1 h2⟩)
  unfold TabP at HC
  obtain ⟨kind, a, n, S, T, lv, l⟩ := o
  obtain rfl : kind = 4 := hk
  clear h ok hN so hFB hB0 hlb hse
  generalize (insertE g S l).2.2 = RES at *
  unfold StepD.cells at *
  simp only at *
  show Calls Tryz.prog _ #[.pointer (some ⟨b, 0, none⟩), .agg #[.int .i64 4, .int .i64 a, .int .i64 n, .string S, .string T, lv]] w _
  go_enter Tryz.func62, Tryz.ntmps62
  go_upto_region 8 with fail
  have HBX := hide hbox
  generalize w.alloc (.cells #[.int .i64 4, .int .i64 a, .int .i64 n, .string S, .string T, lv] 81) = W at *
  generalize hB : w.heap.size = B at *
  clear hB hbox hW
  have q0 := blkCell HBX.out (i := 0) rfl
  have q1 := blkCell HBX.out (i := 1) rfl
  have q2 := blkCell HBX.out (i := 2) rfl
  have q3 := blkCell HBX.out (i := 3) rfl
  have q4 := blkCell HBX.out (i := 4) rfl
  have q5 := blkCell HBX.out (i := 5) rfl
  go_wp2_with (go_at_call 110; refine HC.out.mono ?_; rintro e w1 ⟨rfl, hE1, hS1⟩)
  go_ret
  exact HU.out w1 hE1 hS1
include hg h8
theorem ltables_any (hk : o.kind = 3 ∨ o.kind = 4 ∨ o.kind = 5 ∨ o.kind = 6) : Calls Tryz.prog 62 #[.pointer (some ⟨b, 0, none⟩), .agg o.cells] w (TabP F w b (stepE g o)) := by
  rcases hk with hk | hk | hk | hk
  · exact ltab_create h ok hg (fun k hk => Nat.le_trans h8 (hFB k hk)) o so hk
  · exact ltab_insert h ok hN o so B0 hFB hB0 hlb hk
  · exact ltab_delete h ok hg (fun k hk => Nat.le_trans h8 (hFB k hk)) o so hk
  · exact ltab_tick h o hk
end
set_option maxHeartbeats 4000000 in
theorem lpolicies_any (b : Nat) (o : StepD) (w : World) (hk : o.kind ≤ 7) : Calls Tryz.prog 64 #[.pointer (some ⟨b, 0, none⟩), .agg o.cells] w fun e w' => e = .returned (.bool true) ∧ Below w.heap.size w w' := by
  obtain ⟨kind, a, n, S, T, lv, l⟩ := o
  have hk' : kind ≤ 7 := hk
  clear hk
  have e8 : (kind == 8) = false := beq_eq_false_iff_ne.2 (by omega)
  have e9 : (kind == 9) = false := beq_eq_false_iff_ne.2 (by omega)
  have e10 : (kind == 10) = false := beq_eq_false_iff_ne.2 (by omega)
  have e11 : (kind == 11) = false := beq_eq_false_iff_ne.2 (by omega)
  have e12 : (kind == 12) = false := beq_eq_false_iff_ne.2 (by omega)
  show Calls Tryz.prog _ #[.pointer (some ⟨b, 0, none⟩), .agg #[.int .i64 kind, .int .i64 a, .int .i64 n, .string S, .string T, lv]] w _
  go_enter Tryz.func64, Tryz.ntmps64
  go_wp2_with fail
  go_ret
  exact ⟨rfl, (Below.refl _ _).alloc (Nat.le_refl _) _⟩
end Go.Proofs.YtbkeflgafjnefaaGreatDoor
namespace Go.Proofs.YtbkeflgafjnefaaGreatDoor
open Go.RowKit
open Trib
/-- The engines that a script has made. -/
def WAt (F : Nat → Prop) (w : World) (wb : Nat) (gs : List Eng) : Prop :=
  ∃ (c : Nat → Nat) (pv : Value) (ps : List Nat), ps.length = gs.length ∧ Blk (colr F c 0) w wb #[pv, .int .i64 0, .slice none 0 0] 78 ∧ RowF (colr F c 0) w 85 1 pv ps.length (ptrs ps) ∧ ∀ i (h : i < ps.length) (h2 : i < gs.length), PairAt (colr F c (i + 1)) w ps[i] gs[i]
theorem WAt.move {F F' : Nat → Prop} {w w' : World} {wb : Nat} {gs : List Eng} (h : WAt F w wb gs) (m : Mov F F' w w') : WAt F' w' wb gs := by
  obtain ⟨c, pv, ps, h0, h1, h2, h3⟩ := h
  exact ⟨c, pv, ps, h0, h1.move (colr_move m c 0), h2.move (colr_move m c 0), fun i h h' => (h3 i h h').move (colr_move m c (i + 1))⟩
def StepP (F : Nat → Prop) (w : World) (wb N : Nat) (gs : List Eng) (e : Ending) (w' : World) : Prop :=
  e = .returned (.bool true) ∧ ∃ gs', WAt (Gro F w) w' wb gs' ∧ (∀ g ∈ gs', EngOk (N + 1) g) ∧ gs'.length ≤ gs.length + 1 ∧ Stp F w w'
theorem StepP.same {F : Nat → Prop} {w w' : World} {wb N : Nat} {gs : List Eng} (h : WAt F w wb gs) (ok : ∀ g ∈ gs, EngOk N g) (hb : Below w.heap.size w w') : StepP F w wb N gs (.returned (.bool true)) w' :=
  ⟨rfl, gs, h.move (Mov.gro hb), fun g hg => (ok g hg).mono (Nat.le_succ N), Nat.le_succ _, Stp.of hb⟩
/-- One pair is turned. -/
theorem WAt.turn {F : Nat → Prop} {w w' : World} {wb : Nat} {gs : List Eng} {c : Nat → Nat} {pv : Value} {ps : List Nat} (h0 : ps.length = gs.length) (h1 : Blk (colr F c 0) w wb #[pv, .int .i64 0, .slice none 0 0] 78) (h2 : RowF (colr F c 0) w 85 1 pv ps.length (ptrs ps)) (h3 : ∀ i (h : i < ps.length) (h2 : i < gs.length), PairAt (colr F c (i + 1)) w ps[i] gs[i])
    (i : Nat) (hi : i < ps.length) (g' : Eng) (hp : PairAt (Gro (colr F c (i + 1)) w) w' ps[i] g') (hs : Stp (colr F c (i + 1)) w w') : WAt (Gro F w) w' wb (gs.set i g') ∧ Stp F w w' := by
  refine ⟨⟨cNew c w (i + 1), pv, ps, by rw [List.length_set]; exact h0, h1.move (recol_other hs (by omega)), h2.move (recol_other hs (by omega)), fun j h h' => ?_⟩, hs.mono (fun k _ h => h.1)⟩
  have hjl : j < gs.length := by simpa using h'
  by_cases e : j = i
  · subst e
    rw [List.getElem_set_self]
    exact hp.move (Mov.to (fun k _ hk => recol_same hk))
  · rw [List.getElem_set_ne (by omega)]
    exact (h3 j h hjl).move (recol_other hs (by omega))
theorem one_new3 (w : World) (A A' : Obj) (a : Value) (t : TypeId) : ∀ j u, ([a] : List Value)[j]? = some u → (((w.alloc A).alloc A').alloc (.cells #[a] t)).cell? ((⟨w.heap.size + 2, 0, none⟩ : Addr).add j) = some u := by
  have h := one_new ((w.alloc A).alloc A') a t
  rwa [show ((w.alloc A).alloc A').heap.size = w.heap.size + 2 from by rw [alloc_size, alloc_size]] at h
theorem infoPair : (Tryz.prog.info? 85).map (fun i => (i.zero, i.size, i.bytes)) = some (some (.pointer none), 1, 8) := by kernel_rfl
theorem new_close {F : Nat → Prop} {w : World} {wb : Nat} {gs : List Eng} {c : Nat → Nat} {pv : Value} {ps : List Nat} (h0 : ps.length = gs.length) (h1 : Blk (colr F c 0) w wb #[pv, .int .i64 0, .slice none 0 0] 78) (h2 : RowF (colr F c 0) w 85 1 pv ps.length (ptrs ps)) (h3 : ∀ i (h : i < ps.length) (h2 : i < gs.length), PairAt (colr F c (i + 1)) w ps[i] gs[i])
    {W w1 w5 : World} {k g5 cap5 : Nat} (hW : Below w.heap.size w W) (hb1 : Below W.heap.size W w1) (hE : EngAt (fun q => W.heap.size ≤ q) w1 k ex0 eng0) {A3 : Obj}
    (hgr : (((w1.alloc (.cells #[.slice none 0 0, .slice none 0 0, .slice none 0 0, .slice none 0 0, .int .i64 0] 91)).alloc (.cells #[.pointer (some ⟨k, 0, none⟩), .pointer (some ⟨w1.heap.size, 0, none⟩), .bool false, .int .i64 0] 84)).alloc A3).grownBy w5 pv.ownBlock)
    (hown : w5.ownsRow 0 85 1 (.slice (some ⟨g5, 0, none⟩) (ps.length + 1) cap5) (ps.length + 1) (ptrs ps ++ [.pointer (some ⟨w1.heap.size + 1, 0, none⟩)])) (hat : pv.ownBlock = some g5 ∨ g5 = w1.heap.size + 3) :
    WAt (Gro F w) (w5.setCell ⟨wb, 0, none⟩ (.slice (some ⟨g5, 0, none⟩) (ps.length + 1) cap5)) wb (gs ++ [eng0]) ∧ Stp F w (w5.setCell ⟨wb, 0, none⟩ (.slice (some ⟨g5, 0, none⟩) (ps.length + 1) cap5)) := by
  have hwb := h1.lt
  have zW := hW.size
  have z1 := hb1.size
  have hpl : ∀ q, pv.ownBlock = some q → q < w.heap.size := fun q hq => (h2.1.lt q hq).2
  have hbw1 : Below w.heap.size w w1 := hW.trans (hb1.mono zW)
  have hb4 : Below w.heap.size w (((w1.alloc (.cells #[.slice none 0 0, .slice none 0 0, .slice none 0 0, .slice none 0 0, .int .i64 0] 91)).alloc (.cells #[.pointer (some ⟨k, 0, none⟩), .pointer (some ⟨w1.heap.size, 0, none⟩), .bool false, .int .i64 0] 84)).alloc A3) := ((hbw1.alloc (by omega) _).alloc (by rw [alloc_size]; omega) _).alloc (by rw [alloc_size, alloc_size]; omega) _
  have hst0 : Stp (colr F c 0) w (w5.setCell ⟨wb, 0, none⟩ (.slice (some ⟨g5, 0, none⟩) (ps.length + 1) cap5)) := ((Stp.of hb4).andThen (Stp.grown hgr (fun q e => h2.2 q e))).andThen (Stp.set wb 0 _ h1.1)
  have hB5 : w5.heap[wb]? = some (.cells #[pv, .int .i64 0, .slice none 0 0] 78 (0, 0)) := (hgr.block wb (by rw [alloc_size, alloc_size, alloc_size]; omega) (fun e => h2.apart h1.2 (by decide) e.symm)).trans ((hb4.block wb hwb).trans h1.2)
  have hap : (Value.slice (some ⟨g5, 0, none⟩) (ps.length + 1) cap5).ownBlock ≠ some wb := rowApart hown hB5 (by decide)
  -- the blocks that are new
  have hnew : ∀ q, w.heap.size ≤ q → q < w1.heap.size + 3 → (w5.setCell ⟨wb, 0, none⟩ (.slice (some ⟨g5, 0, none⟩) (ps.length + 1) cap5)).heap[q]? = (((w1.alloc (.cells #[.slice none 0 0, .slice none 0 0, .slice none 0 0, .slice none 0 0, .int .i64 0] 91)).alloc (.cells #[.pointer (some ⟨k, 0, none⟩), .pointer (some ⟨w1.heap.size, 0, none⟩), .bool false, .int .i64 0] 84)).alloc A3).heap[q]? := fun q h1' h2' =>
    (Below.heap_setCell _ _ _ q (by show q ≠ wb; omega)).trans (hgr.block q (by rw [alloc_size, alloc_size, alloc_size]; omega) (fun e => by have := hpl q e.symm; omega))
  have hcol : ∀ q, w.heap.size ≤ q → q < w1.heap.size + 3 → colr (Gro F w) (cMk c w g5 (ps.length + 1)) (ps.length + 1) q := fun q h1' h2' => ⟨Gro.new h1', cMk_new h1' (by
    rintro rfl
    rcases hat with h | h
    · have := hpl _ h; omega
    · omega)⟩
  refine ⟨⟨cMk c w g5 (ps.length + 1), .slice (some ⟨g5, 0, none⟩) (ps.length + 1) cap5, ps ++ [w1.heap.size + 1], by simp [h0], ?_, ?_, ?_⟩, hst0.mono (fun _ _ h => h.1)⟩
  · exact ⟨⟨Gro.any h1.1.1, (cMk_old hwb).trans h1.1.2⟩, (Blk.set (F := fun _ => True) ⟨trivial, hB5⟩ 0 _).2⟩
  · refine ⟨by
      rw [List.length_append]
      have := ownsRow_setCell_other hown (a := ⟨wb, 0, none⟩) hap (.slice (some ⟨g5, 0, none⟩) (ps.length + 1) cap5)
      simpa [ptrs] using this, fun q hq => ?_⟩
    obtain rfl : g5 = q := by simpa [Value.ownBlock] using hq
    rcases hat with h | h
    · have hq := h2.2 _ h
      exact ⟨Gro.any hq.1, (cMk_old (hpl _ h)).trans hq.2⟩
    · exact ⟨Gro.new (by omega), cMk_row (by omega)⟩
  · intro i hi1 hi2
    have hi2' : i < gs.length + 1 := by simpa using hi2
    by_cases hi : i < ps.length
    · have hig : i < gs.length := by omega
      have ea : (ps ++ [w1.heap.size + 1])[i] = ps[i] := List.getElem_append_left hi
      have eb : (gs ++ [eng0])[i] = gs[i] := List.getElem_append_left hig
      rw [ea, eb]
      exact (h3 i hi hig).move (fun q hq hF => ⟨⟨Gro.old hq hF.1, (cMk_old hq).trans hF.2⟩, hst0.block q hq (fun h => by have a := hF.2; have b := h.2; omega)⟩)
    · have hie : i = ps.length := by omega
      subst hie
      have ea : (ps ++ [w1.heap.size + 1])[ps.length]'(by simp) = w1.heap.size + 1 := by simp
      have eb : (gs ++ [eng0])[ps.length]'(by simp [h0]) = eng0 := by simp [h0]
      rw [ea, eb]
      refine ⟨fun q => if q < w1.heap.size then 1 else if q = w1.heap.size then 2 else 0, k, w1.heap.size, false, .int .i64 0, ?_, ?_, ?_⟩
      · refine ⟨⟨hcol _ (by omega) (by omega), ?_⟩, (hnew _ (by omega) (by omega)).trans ?_⟩
        · show (if w1.heap.size + 1 < w1.heap.size then 1 else if w1.heap.size + 1 = w1.heap.size then 2 else 0) = 0
          rw [if_neg (by omega), if_neg (by omega)]
        · have := heap_alloc_new (w1.alloc (.cells #[.slice none 0 0, .slice none 0 0, .slice none 0 0, .slice none 0 0, .int .i64 0] 91)) (.cells #[.pointer (some ⟨k, 0, none⟩), .pointer (some ⟨w1.heap.size, 0, none⟩), .bool false, .int .i64 0] 84)
          rw [alloc_size] at this
          exact (Below.heap_alloc _ _ _ (by rw [alloc_size, alloc_size]; omega)).trans this
      · refine hE.move (fun q hq hF => ⟨⟨hcol q (by have : W.heap.size ≤ q := hF; omega) (by omega), ?_⟩, (hnew q (by have : W.heap.size ≤ q := hF; omega) (by omega)).trans ?_⟩)
        · show (if q < w1.heap.size then 1 else if q = w1.heap.size then 2 else 0) = 1
          rw [if_pos hq]
        · exact (Below.heap_alloc _ _ _ (by rw [alloc_size, alloc_size]; omega)).trans ((Below.heap_alloc _ _ _ (by rw [alloc_size]; omega)).trans (Below.heap_alloc _ _ _ hq))
      · refine (reng_new w1).move (fun q hq hF => ?_)
        rw [alloc_size] at hq
        have hqe : q = w1.heap.size := by have : w1.heap.size ≤ q := hF; omega
        subst hqe
        refine ⟨⟨hcol _ (by omega) (by omega), ?_⟩, (hnew _ (by omega) (by omega)).trans ?_⟩
        · show (if w1.heap.size < w1.heap.size then 1 else if w1.heap.size = w1.heap.size then 2 else 0) = 2
          rw [if_neg (by omega), if_pos rfl]
        · exact (Below.heap_alloc _ _ _ (by rw [alloc_size, alloc_size]; omega)).trans (Below.heap_alloc _ _ _ (by rw [alloc_size]; omega))
section
variable {F : Nat → Prop} {w : World} {wb : Nat} {gs : List Eng} {N : Nat} (h : WAt F w wb gs) (ok : ∀ g ∈ gs, EngOk N g) (hg : Glob w) (o : StepD) (so : StepOk w o)
include h ok
set_option maxHeartbeats 4000000 in
set_option maxRecDepth 100000 in
include hg so in
theorem lstep_print (hk : o.kind = 1) : Calls Tryz.prog 34 #[.pointer (some ⟨wb, 0, none⟩), .agg o.cells] w (StepP F w wb N gs) := by
  obtain ⟨kind, a, n, S, T, lv, l⟩ := o
  obtain rfl : kind = 1 := hk
  have hW : Below w.heap.size w (w.alloc (.cells #[.int .i64 1, .int .i64 a, .int .i64 n, .string S, .string T, lv] 81)) := (Below.refl _ _).alloc (Nat.le_refl _) _
  have HC := hide (lprint_any S _ (hg.below hW hg.big) so.s)
  have HE : Hid (∀ w', Below w.heap.size w w' → StepP F w wb N gs (.returned (.bool true)) w') := hide (fun w' hb => StepP.same h ok hb)
  clear h ok hg so
  show Calls Tryz.prog _ #[.pointer (some ⟨wb, 0, none⟩), .agg #[.int .i64 1, .int .i64 a, .int .i64 n, .string S, .string T, lv]] w _
  go_enter Tryz.func34, Tryz.ntmps34
  go_wp2_with (go_at_call 60; refine HC.out.mono ?_; rintro e w1 ⟨rfl, hb1⟩)
  go_ret
  exact HE.out w1 (hW.trans (hb1.mono hW.size))
set_option maxHeartbeats 4000000 in
theorem lstep_none (hk : o.kind ≠ 1) (hk2 : o.kind ≠ 2) (hgs : gs = []) : Calls Tryz.prog 34 #[.pointer (some ⟨wb, 0, none⟩), .agg o.cells] w (StepP F w wb N gs) := by
  have HE : Hid (∀ w', Below w.heap.size w w' → StepP F w wb N gs (.returned (.bool true)) w') := hide (fun w' hb => StepP.same h ok hb)
  obtain ⟨c, pv, ps, h0, h1, h2, h3⟩ := h
  subst hgs
  obtain rfl : ps = [] := List.eq_nil_of_length_eq_zero h0
  obtain ⟨pa, pcap, rfl⟩ := h2.shape
  have c0 : w.cell? ⟨wb, 0, none⟩ = some (.slice pa 0 pcap) := h1.cell (i := 0) rfl
  have hlt := h1.lt
  have hne : ¬ wb = w.heap.size := Nat.ne_of_lt hlt
  obtain ⟨kind, a, n, S, T, lv, l⟩ := o
  have e1 : (kind == 1) = false := beq_eq_false_iff_ne.2 hk
  have e2 : (kind == 2) = false := beq_eq_false_iff_ne.2 hk2
  clear h1 h2 h3 ok hk hk2 h0
  show Calls Tryz.prog _ #[.pointer (some ⟨wb, 0, none⟩), .agg #[.int .i64 kind, .int .i64 a, .int .i64 n, .string S, .string T, lv]] w _
  go_enter Tryz.func34, Tryz.ntmps34
  go_wp2_with fail
  go_ret
  exact HE.out _ ((Below.refl _ _).alloc (Nat.le_refl _) _)
set_option maxHeartbeats 8000000 in
set_option maxRecDepth 100000 in
theorem lstep_new (hk : o.kind = 2) (hlen : gs.length ≤ 1100000) : Calls Tryz.prog 34 #[.pointer (some ⟨wb, 0, none⟩), .agg o.cells] w (StepP F w wb N gs) := by
  obtain ⟨c, pv, ps, h0, h1, h2, h3⟩ := h
  obtain ⟨kind, a, n, S, T, lv, l⟩ := o
  obtain rfl : kind = 2 := hk
  obtain ⟨pa, pcap, rfl⟩ := h2.shape
  have hps : ps.length ≤ 1100000 := by omega
  have hW : Below w.heap.size w (w.alloc (.cells #[.int .i64 2, .int .i64 a, .int .i64 n, .string S, .string T, lv] 81)) := (Below.refl _ _).alloc (Nat.le_refl _) _
  have HN := hide (enew_any (w.alloc (.cells #[.int .i64 2, .int .i64 a, .int .i64 n, .string S, .string T, lv] 81)))
  obtain ⟨i0, hii, hz0, hz1, hz2⟩ := info_parts infoPair
  have hlt := h1.lt
  have HOK := hide ok
  have H0 := hide h0
  have H1 := hide h1
  have H2 := hide h2
  have H3 := hide h3
  clear h0 h1 h2 h3 ok
  show Calls Tryz.prog _ #[.pointer (some ⟨wb, 0, none⟩), .agg #[.int .i64 2, .int .i64 a, .int .i64 n, .string S, .string T, lv]] w _
  go_enter Tryz.func34, Tryz.ntmps34
  go_upto_region 5 with (go_at_call 37; refine HN.out.mono ?_; rintro e w1 ⟨k, hk, rfl, hE1, hb1⟩)
  have HW := hide hW
  have z1 := hb1.size
  have zW := hW.size
  have hb : Below w.heap.size w w1 := hW.trans (hb1.mono zW)
  have zw := hb.size
  have HB1 := hide hb1
  have HEE := hide hE1
  have hX1 := H1.out.move (Mov.stay hb)
  have hR1 := H2.out.move (Mov.stay hb)
  have c0 : w1.cell? ⟨wb, 0, none⟩ = some (.slice pa ps.length pcap) := hX1.cell (i := 0) rfl
  have hlt1 := hX1.lt
  have hap := hR1.apart hX1.2 (by decide)
  clear hW hb1 hE1 HN
  generalize w.alloc (.cells #[.int .i64 2, .int .i64 a, .int .i64 n, .string S, .string T, lv] 81) = W at *
  go_wp2_with (at_builtin; refine wpList_append_lies _ rfl _ _ 73 rfl 0 85 i0 (.pointer none) 1 8 Tryz.underlying73 hii hz0 hz1 hz2 rfl (by decide) (.slice pa ps.length pcap) ps.length (ptrs ps) rfl (((hR1.1.alloc _).alloc _).alloc _) ⟨w1.heap.size + 2, 0, none⟩ 1 1 [.pointer (some ⟨w1.heap.size + 1, 0, none⟩)] rfl rfl (one_new3 _ _ _ _ _) (by simp [Value.oneCell']) (by decide) (by unfold maxLen; omega) (by omega) (Nat.zero_le _) (w1.heap.size + 3) (by simp) ?_; intro g5 cap5 w5 hown5 hgrow5 hat5 hlt5; have hB5 := (hgrow5.block wb (by rw [alloc_size, alloc_size, alloc_size]; omega) (fun e => hap e.symm)).trans ((Below.heap_alloc _ _ wb (by rw [alloc_size, alloc_size]; omega)).trans ((Below.heap_alloc _ _ wb (by rw [alloc_size]; omega)).trans ((Below.heap_alloc _ _ wb hlt1).trans hX1.2))); have x0 := blkCell hB5 (i := 0) rfl; have xf0 := blkFree (i := 0) hB5)
  go_ret
  obtain ⟨r1, r2⟩ := new_close H0.out H1.out H2.out H3.out HW.out HB1.out HEE.out hgrow5 hown5 hat5
  refine ⟨rfl, gs ++ [eng0], r1, fun g hg => ?_, by simp, r2⟩
  rcases List.mem_append.1 hg with hg | hg
  · exact (HOK.out g hg).mono (Nat.le_succ N)
  · obtain rfl := List.mem_singleton.1 hg
    exact EngOk.zero _
end
end Go.Proofs.YtbkeflgafjnefaaGreatDoor
namespace Go.Proofs.YtbkeflgafjnefaaGreatDoor
open Go.RowKit
open Trib
theorem wat_up {F : Nat → Prop} {w W w' : World} {wb : Nat} {gs : List Eng} (hW : Below w.heap.size w W) (h : WAt (Gro (cut F w) W) w' wb gs) (hs : Stp (cut F w) W w') : WAt (Gro F w) w' wb gs ∧ Stp F w w' := by
  have hz := hW.size
  refine ⟨h.move (Mov.to (fun k _ hk => ?_)), (Stp.of hW).trans (hs.mono (fun k _ hk => Gro.any hk.1))⟩
  rcases hk with ⟨_, h1, h2⟩ | hk
  · exact .inl ⟨h2, h1⟩
  · exact .inr (by omega)
theorem StepOk.to {w w' : World} {o : StepD} (so : StepOk w o) (hb : ∀ q, q < w.heap.size → w'.heap[q]? = w.heap[q]?) (hs : w.heap.size ≤ w'.heap.size) : StepOk w' o := ⟨so.s, so.t, so.l, so.ls, so.a0, so.a1, so.lv.move hb hs, so.ln⟩
section
variable {F : Nat → Prop} {w : World} {wb : Nat} {gs : List Eng} {N : Nat} (h : WAt F w wb gs) (ok : ∀ g ∈ gs, EngOk N g) (hN : N ≤ 1000000000) (hg : Glob w) (o : StepD) (so : StepOk w o) (B0 : Nat) (h8 : 8 ≤ B0) (hFB : ∀ k, F k → B0 ≤ k) (hB0 : B0 ≤ w.heap.size) (hlb : ∀ q off cap, o.lv = .slice (some ⟨q, off, none⟩) o.l.length cap → o.l ≠ [] → q < B0)
include h ok hN hg so h8 hFB hB0 hlb
set_option maxHeartbeats 8000000 in
set_option maxRecDepth 100000 in
theorem lstep_pick (hk1 : o.kind ≠ 1) (hk2 : o.kind ≠ 2) (hk6 : o.kind ≤ 6) (hgs : 0 < gs.length) (hlen : gs.length ≤ 1100000) : Calls Tryz.prog 34 #[.pointer (some ⟨wb, 0, none⟩), .agg o.cells] w (StepP F w wb N gs) := by
  have hW : Below w.heap.size w (w.alloc (.cells o.cells 81)) := (Below.refl _ _).alloc (Nat.le_refl _) _
  have hbox := heap_alloc_new w (.cells o.cells 81)
  obtain ⟨c, pv, ps, h0, h1, h2, h3⟩ := h
  have m0 : ∀ q0, Mov F (cut F w) w ((w.alloc (.cells o.cells 81)).drewN q0) := fun q0 k hk hF => ⟨⟨hF, hk⟩, hW.block k hk⟩
  have hWd : ∀ q0, Below w.heap.size w ((w.alloc (.cells o.cells 81)).drewN q0) := fun q0 => hW.trans ⟨rfl, rfl, rfl, Nat.le_refl _, fun _ _ => rfl⟩
  have HT : Hid (∀ q0 k (hk : k < ps.length) (hk2 : k < gs.length), (o.kind = 3 ∨ o.kind = 4 ∨ o.kind = 5 ∨ o.kind = 6) → Calls Tryz.prog 62 #[.pointer (some ⟨ps[k], 0, none⟩), .agg o.cells] ((w.alloc (.cells o.cells 81)).drewN q0) (StepP F w wb N gs)) := hide (fun q0 k hk hk2 hkk => by
    have m0 := m0 q0
    have hWd := hWd q0
    have hp := (h3 k hk hk2).move (colr_move m0 c (k + 1))
    refine (ltables_any hp (ok _ (List.getElem_mem hk2)) hN (hg.below hWd hg.big) o (so.to (fun q hq => hWd.block q hq) hWd.size) B0 h8 (fun q hq => hFB q hq.1.1) (Nat.le_trans hB0 hWd.size) hlb hkk).mono ?_
    rintro e w' ⟨rfl, hp', hs'⟩
    obtain ⟨t1, t2⟩ := WAt.turn h0 (h1.move (colr_move m0 c 0)) (h2.move (colr_move m0 c 0)) (fun i h h' => (h3 i h h').move (colr_move m0 c (i + 1))) k hk _ hp' hs'
    obtain ⟨u1, u2⟩ := wat_up hWd t1 t2
    refine ⟨rfl, _, u1, fun g' hg' => ?_, by rw [List.length_set]; omega, u2⟩
    rcases mem_set hg' with hg' | rfl
    · exact (ok g' hg').mono (Nat.le_succ N)
    · exact (ok _ (List.getElem_mem hk2)).step o)
  have HPO : Hid (∀ q0 k, (¬ (o.kind = 3 ∨ o.kind = 4 ∨ o.kind = 5 ∨ o.kind = 6)) → Calls Tryz.prog 64 #[.pointer (some ⟨k, 0, none⟩), .agg o.cells] ((w.alloc (.cells o.cells 81)).drewN q0) (StepP F w wb N gs)) := hide (fun q0 k _ => by
    have hWd := hWd q0
    refine (lpolicies_any k o _ (by omega)).mono ?_
    rintro e w' ⟨rfl, hb'⟩
    exact StepP.same ⟨c, pv, ps, h0, h1, h2, h3⟩ ok (hWd.trans (hb'.mono hWd.size)))
  have HPK := hide (fun W => pick_any o.a ps.length W so.a0 so.a1 (by omega) (by omega))
  have hps : 0 < ps.length := by omega
  obtain ⟨gp, pcap, rfl, hpc, _, hgp⟩ := h2.got hps
  have hX := h1.move (Mov.stay (F := colr F c 0) hW)
  have hR := h2.move (Mov.stay (F := colr F c 0) hW)
  have HCP : Hid (∀ k (hk : k < ps.length), (w.alloc (.cells o.cells 81)).cell? ⟨gp, k, none⟩ = some (.pointer (some ⟨ps[k], 0, none⟩))) := hide (fun k hk => hR.cells (by unfold ptrs; rw [List.getElem?_map, List.getElem?_eq_getElem hk]; rfl))
  have c0 : (w.alloc (.cells o.cells 81)).cell? ⟨wb, 0, none⟩ = some (.slice (some ⟨gp, 0, none⟩) ps.length pcap) := hX.cell (i := 0) rfl
  have H0 := hide h0
  have hpI : ((ps.length : Int) == 0) = false := beq_eq_false_iff_ne.2 (by omega)
  obtain ⟨kind, a, n, S, T, lv, l⟩ := o
  have e1 : (kind == 1) = false := beq_eq_false_iff_ne.2 hk1
  have e2 : (kind == 2) = false := beq_eq_false_iff_ne.2 hk2
  have e7 : (kind == 7) = false := beq_eq_false_iff_ne.2 (by have : kind ≤ 6 := hk6; omega)
  clear h0 h1 h2 h3 ok hg so hFB hB0 hlb hk1 hk2 m0 hX hR hWd
  unfold StepD.cells at *
  simp only at *
  show Calls Tryz.prog _ #[.pointer (some ⟨wb, 0, none⟩), .agg #[.int .i64 kind, .int .i64 a, .int .i64 n, .string S, .string T, lv]] w _
  go_enter Tryz.func34, Tryz.ntmps34
  go_upto_region 9 with fail
  have HBX := hide hbox
  generalize w.alloc (.cells #[.int .i64 kind, .int .i64 a, .int .i64 n, .string S, .string T, lv] 81) = W at *
  generalize w.heap.size = B at *
  clear hbox hW
  have q0 := blkCell HBX.out (i := 0) rfl
  have q1 := blkCell HBX.out (i := 1) rfl
  have q2 := blkCell HBX.out (i := 2) rfl
  have q3 := blkCell HBX.out (i := 3) rfl
  have q4 := blkCell HBX.out (i := 4) rfl
  have q5 := blkCell HBX.out (i := 5) rfl
  obtain ⟨k, hkl, hke⟩ : ∃ k, k < ps.length ∧ pickN a ps.length = k := ⟨_, (pickN_eq hps).2, rfl⟩
  rw [hke] at HPK
  have ck := HCP.out k hkl
  have hkI : (k : Int) < (ps.length : Int) := Int.ofNat_lt.2 hkl
  have hk0 : (0 : Int) ≤ (k : Int) := Int.natCast_nonneg k
  clear hke
  go_quiet ((go_at_call 61; exact Calls.quiet_of_same ((HPK.out _).mono (fun _ _ h => ⟨h.1, h.2.symm⟩))))
  by_cases hkk : kind = 3 ∨ kind = 4 ∨ kind = 5 ∨ kind = 6
  · rcases hkk with hk | hk | hk | hk
    · subst hk
      go_wp2_with (go_at_call 62; refine (HT.out _ k hkl (by have := H0.out; omega) (by decide)).mono ?_; rintro e w2 ⟨rfl, hst⟩)
      go_ret
      exact ⟨rfl, hst⟩
    · subst hk
      go_wp2_with (go_at_call 62; refine (HT.out _ k hkl (by have := H0.out; omega) (by decide)).mono ?_; rintro e w2 ⟨rfl, hst⟩)
      go_ret
      exact ⟨rfl, hst⟩
    · subst hk
      go_wp2_with (go_at_call 62; refine (HT.out _ k hkl (by have := H0.out; omega) (by decide)).mono ?_; rintro e w2 ⟨rfl, hst⟩)
      go_ret
      exact ⟨rfl, hst⟩
    · subst hk
      go_wp2_with (go_at_call 62; refine (HT.out _ k hkl (by have := H0.out; omega) (by decide)).mono ?_; rintro e w2 ⟨rfl, hst⟩)
      go_ret
      exact ⟨rfl, hst⟩
  · have e3 : (kind == 3) = false := beq_eq_false_iff_ne.2 (by omega)
    have e4 : (kind == 4) = false := beq_eq_false_iff_ne.2 (by omega)
    have e5 : (kind == 5) = false := beq_eq_false_iff_ne.2 (by omega)
    have e6 : (kind == 6) = false := beq_eq_false_iff_ne.2 (by omega)
    have HPP := hide (fun q => HPO.out q ps[k] hkk)
    clear hkk HPO HT
    go_wp2_with (go_at_call 64; refine (HPP.out _).mono ?_; rintro e w2 ⟨rfl, hst⟩)
    go_ret
    exact ⟨rfl, hst⟩
end
end Go.Proofs.YtbkeflgafjnefaaGreatDoor
namespace Go.Proofs.YtbkeflgafjnefaaGreatDoor
open Go.RowKit
open Trib
section
variable {F : Nat → Prop} {w : World} {wb : Nat} {gs : List Eng} {N : Nat} (h : WAt F w wb gs) (ok : ∀ g ∈ gs, EngOk N g) (hN : N ≤ 1000000000) (hg : Glob w) (o : StepD) (so : StepOk w o) (B0 : Nat) (h8 : 8 ≤ B0) (hFB : ∀ k, F k → B0 ≤ k) (hB0 : B0 ≤ w.heap.size) (hlb : ∀ q off cap, o.lv = .slice (some ⟨q, off, none⟩) o.l.length cap → o.l ≠ [] → q < B0)
include h ok hN hg so h8 hFB hB0 hlb
theorem lstep_any (hk6 : o.kind ≤ 6) (hlen : gs.length ≤ 1100000) : Calls Tryz.prog 34 #[.pointer (some ⟨wb, 0, none⟩), .agg o.cells] w (StepP F w wb N gs) := by
  by_cases h1 : o.kind = 1
  · exact lstep_print h ok hg o so h1
  · by_cases h2 : o.kind = 2
    · exact lstep_new h ok o h2 hlen
    · by_cases h3 : gs = []
      · exact lstep_none h ok o h1 h2 h3
      · exact lstep_pick h ok hN hg o so B0 h8 hFB hB0 hlb h1 h2 hk6 (List.length_pos_iff.2 h3) hlen
end
def headT : ByteArray := ⟨#[115, 101, 108, 101, 99, 116, 32, 32, 97, 46, 120, 44, 40, 32, 97, 46, 121, 43, 32, 45, 51, 32, 41, 32, 102, 114, 111, 109, 32, 116, 32, 97]⟩
def headP : ByteArray := ⟨#[115, 101, 108, 101, 99, 116, 32, 97, 46, 120, 44, 32, 40, 97, 46, 121, 32, 43, 32, 45, 51, 41, 32, 102, 114, 111, 109, 32, 116, 32, 97]⟩
theorem head_print : printV headT = .tuple #[.string headP, .int .i64 0] := by kernel_rfl
def tB : ByteArray := ⟨#[116]⟩
def colsB : ByteArray := ⟨#[120, 58, 105, 44, 121, 58, 116]⟩
def val1 : List ByteArray := [⟨#[49]⟩, ⟨#[39, 97, 39]⟩]
def val2 : List ByteArray := [⟨#[50]⟩, ⟨#[110, 117, 108, 108]⟩]
def g1H : Eng := (createE eng0 tB colsB).2
def g2H : Eng := (insertE g1H tB val1).2.2
theorem head_create : (createE eng0 tB colsB).1 = 0 := by kernel_rfl
theorem head_ins1 : (insertE g1H tB val1).1 = 1 ∧ (insertE g1H tB val1).2.1 = 0 := by constructor <;> kernel_rfl
theorem head_ins2 : (insertE g2H tB val2).1 = 2 ∧ (insertE g2H tB val2).2.1 = 0 := by constructor <;> kernel_rfl
theorem EngAt.all {F : Nat → Prop} {w : World} {b : Nat} {ex : Ex} {g : Eng} (h : EngAt F w b ex g) (B : Nat) (hF : ∀ k, k < w.heap.size → F k → B ≤ k) : EngAt (fun q => B ≤ q) w b ex g := h.move (Mov.to hF)
theorem two_str (w : World) (a b : ByteArray) (t : TypeId) : StrAt (w.alloc (.cells #[.string a, .string b] t)) w.heap.size [a, b] := by
  intro i hi
  have h := heap_alloc_new w (.cells #[.string a, .string b] t)
  match i, hi with
  | 0, _ => exact blkCell h (i := 0) rfl
  | 1, _ => exact blkCell h (i := 1) rfl
/-- One call on an engine of the call's own. -/
theorem own_step {B : Nat} {w w' : World} {b : Nat} {ex : Ex} {g : Eng} (hB : B ≤ w.heap.size) (h : EngAt (Gro (fun q => B ≤ q) w) w' b ex g) (hs : Stp (fun q => B ≤ q) w w') : EngAt (fun q => B ≤ q) w' b ex g ∧ Below B w w' :=
  ⟨h.move (Mov.to (fun k _ hk => by
    rcases hk with ⟨_, h⟩ | h
    · exact h
    · exact Nat.le_trans hB h)), hs.below (fun _ _ h => h) hB⟩
set_option maxHeartbeats 8000000 in
set_option maxRecDepth 100000 in
theorem heads_any (w : World) (hg : Glob w) : Calls Tryz.prog 33 #[.int .i64 6] w fun e w' => e = .returned (.bool true) ∧ Below w.heap.size w w' := by
  have H1 := hide ((tprint_any headT w hg).mono (fun e w' h => print_prog h))
  rw [head_print] at H1
  have HC : Hid (∀ w2 k, w.heap.size ≤ w2.heap.size → Glob w2 → EngAt (fun q => w.heap.size ≤ q) w2 k ex0 eng0 → Calls Tryz.prog 38 #[.pointer (some ⟨k, 0, none⟩), .string tB, .string colsB] w2 fun e w' => e = .returned (.int .i64 0) ∧ EngAt (fun q => w.heap.size ≤ q) w' k ex0 g1H ∧ Below w.heap.size w2 w') := hide (fun w2 k hB hg2 hE => (ecreate_any hE (EngOk.zero 0) hg2 tB colsB (by decide) (by decide)).mono (fun e w' h => by
    obtain ⟨h1, h2, h3⟩ := h
    rw [head_create] at h1
    exact ⟨h1, own_step hB h2 h3⟩))
  have HI1 : Hid (∀ (w3 : World) k, w.heap.size ≤ w3.heap.size → EngAt (fun q => w.heap.size ≤ q) w3 k ex0 g1H → Calls Tryz.prog 39 #[.pointer (some ⟨k, 0, none⟩), .string tB, .slice (some ⟨w3.heap.size, 0, none⟩) 2 2] (w3.alloc (.cells #[.string ⟨#[49]⟩, .string ⟨#[39, 97, 39]⟩] 9)) fun e w' => e = .returned (.tuple #[.int .i64 1, .int .i64 0]) ∧ EngAt (fun q => w.heap.size ≤ q) w' k ex0 g2H ∧ Below w.heap.size w3 w') := hide (fun w3 k hB hE => by
    have hb : Below w3.heap.size w3 (w3.alloc (.cells #[.string ⟨#[49]⟩, .string ⟨#[39, 97, 39]⟩] 9)) := (Below.refl _ _).alloc (Nat.le_refl _) _
    refine (einsert_any (hE.move (Mov.stay hb)) ((EngOk.zero 0).create tB colsB) (by decide) tB w3.heap.size 2 val1 (two_str _ _ _ _) (by simp) (by decide) (by decide)).mono (fun e w' h => ?_)
    obtain ⟨h1, h2, h3⟩ := h
    have h1' : e = .returned (.tuple #[.int .i64 ((insertE g1H tB val1).1 : Int), .int .i64 ((insertE g1H tB val1).2.1 : Int)]) := h1
    rw [head_ins1.1, head_ins1.2] at h1'
    obtain ⟨r1, r2⟩ := own_step (Nat.le_trans hB hb.size) h2 h3
    exact ⟨h1', r1, (hb.mono hB).trans r2⟩)
  have HI2 : Hid (∀ (w3 : World) k, w.heap.size ≤ w3.heap.size → EngAt (fun q => w.heap.size ≤ q) w3 k ex0 g2H → Calls Tryz.prog 39 #[.pointer (some ⟨k, 0, none⟩), .string tB, .slice (some ⟨w3.heap.size, 0, none⟩) 2 2] (w3.alloc (.cells #[.string ⟨#[50]⟩, .string ⟨#[110, 117, 108, 108]⟩] 9)) fun e w' => e = .returned (.tuple #[.int .i64 2, .int .i64 0]) ∧ Below w.heap.size w3 w') := hide (fun w3 k hB hE => by
    have hb : Below w3.heap.size w3 (w3.alloc (.cells #[.string ⟨#[50]⟩, .string ⟨#[110, 117, 108, 108]⟩] 9)) := (Below.refl _ _).alloc (Nat.le_refl _) _
    refine (einsert_any (hE.move (Mov.stay hb)) (((EngOk.zero 0).create tB colsB).insert tB val1) (by decide) tB w3.heap.size 2 val2 (two_str _ _ _ _) (by simp) (by decide) (by decide)).mono (fun e w' h => ?_)
    obtain ⟨h1, h2, h3⟩ := h
    have h1' : e = .returned (.tuple #[.int .i64 ((insertE g2H tB val2).1 : Int), .int .i64 ((insertE g2H tB val2).2.1 : Int)]) := h1
    rw [head_ins2.1, head_ins2.2] at h1'
    obtain ⟨r1, r2⟩ := own_step (Nat.le_trans hB hb.size) h2 h3
    exact ⟨h1', (hb.mono hB).trans r2⟩)
  have HG := hide hg
  clear hg
  unfold headT headP tB colsB at *
  go_enter Tryz.func33, Tryz.ntmps33
  go_wp2_with (first
    | (go_at_call 17; refine H1.out.mono ?_; rintro e w1 ⟨rfl, hb1⟩)
    | (go_at_call 37; refine (enew_any w1).mono ?_; rintro e w2 ⟨k, hk, rfl, hE2, hb2⟩; have z1 := hb1.size; have z2 := hb2.size; have hE2' := hE2.all w.heap.size (fun q _ hq => Nat.le_trans z1 hq); have hbw2 : Below w.heap.size w w2 := hb1.trans (hb2.mono z1); have zw2 := hbw2.size; have hG2 := HG.out.below hbw2 HG.out.big)
    | (go_at_call 38; refine (HC.out w2 k zw2 hG2 hE2').mono ?_; rintro e w3 ⟨rfl, hE3, hb3⟩; have hbw3 := hbw2.trans hb3; have zw3 := hbw3.size))
  refine (HI1.out w3 k zw3 hE3).mono ?_
  rintro e w4 ⟨rfl, hE4, hb4⟩
  have hbw4 := hbw3.trans hb4
  have zw4 := hbw4.size
  clear HC H1
  go_wp2_with fail
  refine (HI2.out w4 k zw4 hE4).mono ?_
  rintro e w5 ⟨rfl, hb5⟩
  have hbw5 := hbw4.trans hb5
  go_wp2_with fail
  go_ret
  exact ⟨rfl, hbw5⟩
end Go.Proofs.YtbkeflgafjnefaaGreatDoor
namespace Go.Proofs.YtbkeflgafjnefaaGreatDoor
open Go.RowKit
open Trib
/-- A script that came in. -/
structure ScriptIn (w : World) (v : Value) (os : List StepD) : Prop where
  at_ : ∃ a cap, v = .slice a os.length cap ∧ (os = [] ∨ ∃ sb off, a = some ⟨sb, off, none⟩ ∧ sb < w.heap.size ∧ ∀ i (h : i < os.length) j u, os[i].cells[j]? = some u → w.cell? ⟨sb, off + i * 6 + j, none⟩ = some u)
  small : os.length ≤ 1048576
  steps : ∀ o ∈ os, StepOk w o ∧ ∀ q off cap, o.lv = .slice (some ⟨q, off, none⟩) o.l.length cap → o.l ≠ [] → q < w.heap.size
theorem WAt.start (w : World) : WAt (fun q => w.heap.size ≤ q) (w.alloc (.cells #[.slice none 0 0, .int .i64 0, .slice none 0 0] 78)) w.heap.size [] :=
  ⟨fun _ => 0, .slice none 0 0, [], rfl, ⟨⟨Nat.le_refl _, rfl⟩, heap_alloc_new w _⟩, RowF.nil _ _ _ _, fun _ h => absurd h (Nat.not_lt_zero _)⟩
theorem WAt.hold {F : Nat → Prop} {w : World} {wb : Nat} {gs : List Eng} (h : WAt F w wb gs) : ∃ pv, w.heap[wb]? = some (.cells #[pv, .int .i64 0, .slice none 0 0] 78 (0, 0)) := by
  obtain ⟨c, pv, ps, h0, h1, _⟩ := h
  exact ⟨pv, h1.2⟩
set_option maxHeartbeats 8000000 in
set_option maxRecDepth 100000 in
theorem upTo_any (w : World) (hg : Glob w) (v : Value) (os : List StepD) (hs : ScriptIn w v os) : Calls Tryz.prog 15 #[v, .int .i64 6] w fun e w' => e = .returned (.int .i64 (-1)) ∧ Below w.heap.size w w' := by
  have HH := hide (heads_any w hg)
  have HG := hide hg
  have hbig := hg.big
  have HS := hide hs
  have hsm := hs.small
  obtain ⟨⟨a, cap, rfl, hat⟩, _, _⟩ := hs
  have HAT := hide hat
  clear hg hat
  go_enter Tryz.func15, Tryz.ntmps15
  go_wp2_with (go_at_call 33; refine HH.out.mono ?_; rintro e w1 ⟨rfl, hb1⟩)
  have z1 := hb1.size
  generalize hWB : w1.heap.size = wb at *
  have HWB := hide hWB
  clear hWB
  go_loopg [5, 7, 8] (os.length + 1) (fun p okv ix st wr => ∃ (j : Nat) (gs : List Eng), j ≤ os.length ∧ ix = .int .i64 (j : Int) ∧ Hid (WAt (fun q => wb ≤ q) wr wb gs) ∧ Hid (∀ g ∈ gs, EngOk j g) ∧ gs.length ≤ j ∧ Below w.heap.size w wr ∧ wb ≤ wr.heap.size ∧ os.length - j < p)
  case atStart =>
    refine ⟨0, [], Nat.zero_le _, rfl, hide ?_, hide (fun g hg => absurd hg (List.not_mem_nil)), Nat.le_refl _, hb1.alloc (by have := HWB.out; omega) _, by have := HWB.out; simp; omega, by omega⟩
    have := WAt.start w1
    rw [HWB.out] at this
    exact this
  case round =>
    obtain ⟨j, gs, hj, rfl, hwat, hok, hgl, hbr, hzr, hp⟩ := hrel
    have HP := hide hp
    clear hp
    by_cases hlt : j < os.length
    · have hltI : (j : Int) < (os.length : Int) := by omega
      have hwj : IntKind.i64.wrap ((j : Int) + 1) = (j : Int) + 1 := by rw [IntKind.wrap_i64]; omega
      obtain ⟨sb, off, rfl, hsb, hcells⟩ : ∃ sb off, a = some ⟨sb, off, none⟩ ∧ sb < w.heap.size ∧ ∀ i (h : i < os.length) j u, os[i].cells[j]? = some u → w.cell? ⟨sb, off + i * 6 + j, none⟩ = some u := by
        rcases HAT.out with h | ⟨sb, off, e1, e2, e3⟩
        · subst h; simp at hlt
        · exact ⟨sb, off, e1, e2, e3⟩
      have hso := HS.out.steps os[j] (List.getElem_mem hlt)
      have hcj := hcells j hlt
      clear hcells
      generalize hoo : os[j] = o at *
      clear hoo
      obtain ⟨kind, A, n, S, T, lv, l⟩ := o
      have k0 : wr.cell? ⟨sb, off + j * 6, none⟩ = some (.int .i64 kind) := cell_below hbr (hcj 0 _ rfl) hsb
      have k1 : wr.cell? ⟨sb, off + j * 6 + 1, none⟩ = some (.int .i64 A) := cell_below hbr (hcj 1 _ rfl) hsb
      have k2 : wr.cell? ⟨sb, off + j * 6 + 2, none⟩ = some (.int .i64 n) := cell_below hbr (hcj 2 _ rfl) hsb
      have k3 : wr.cell? ⟨sb, off + j * 6 + 3, none⟩ = some (.string S) := cell_below hbr (hcj 3 _ rfl) hsb
      have k4 : wr.cell? ⟨sb, off + j * 6 + 4, none⟩ = some (.string T) := cell_below hbr (hcj 4 _ rfl) hsb
      have k5 : wr.cell? ⟨sb, off + j * 6 + 5, none⟩ = some lv := cell_below hbr (hcj 5 _ rfl) hsb
      clear hcj
      by_cases hk6 : kind ≤ 6
      · have hFw : ∀ q, wb ≤ q → w.heap.size ≤ q := fun q hq => by have := HWB.out; omega
        have HST := hide (lstep_any hwat.out hok.out (by omega) (HG.out.below hbr hbig) ⟨kind, A, n, S, T, lv, l⟩ (hso.1.move hbr) w.heap.size hbig hFw hbr.size hso.2 hk6 (by omega))
        have hzz := hbr.size
        have HNX : Hid (∀ w2, StepP (fun q => wb ≤ q) wr wb j gs (.returned (.bool true)) w2 → ∃ gs', WAt (fun q => wb ≤ q) w2 wb gs' ∧ (∀ g ∈ gs', EngOk (j + 1) g) ∧ gs'.length ≤ j + 1 ∧ Below w.heap.size w w2 ∧ wb ≤ w2.heap.size) := hide (fun w2 hst => by
          obtain ⟨_, gs', h1, h2, h3, h4⟩ := hst
          refine ⟨gs', h1.move (Mov.to (fun k _ hk => ?_)), h2, by omega, hbr.trans (h4.below (fun k _ hk => hFw k hk) hzz), Nat.le_trans hzr h4.size⟩
          rcases hk with ⟨_, hk⟩ | hk
          · exact hk
          · exact Nat.le_trans hzr hk)
        have hk6' : ¬ (6 : Int) < kind := by omega
        unfold StepD.cells at HST
        clear hso hwat hok
        go_upto_region 10 with (go_at_call 34; refine HST.out.mono ?_; rintro e w2 ⟨rfl, hst⟩)
        obtain ⟨gs', hw', hok', hl', hb', hz'⟩ := HNX.out w2 ⟨rfl, hst⟩
        obtain ⟨pv, hpv⟩ := hw'.hold
        have HSL := hide (still_any wb pv _ w2 hpv)
        have HW' := hide hw'
        have HO' := hide hok'
        clear hst hw' hok' hpv HNX HST k0 k1 k2 k3 k4 k5
        go_wp2_with (go_at_call 36; refine HSL.out.mono ?_; rintro e w3 ⟨rfl, rfl⟩)
        have hp := HP.out
        go_roundg (os.length - j)
        case measure => omega
        case rel => exact ⟨j + 1, gs', by omega, by go_num, HW', HO', hl', hb', hz', by omega⟩
      · have hk6' : (6 : Int) < kind := by omega
        clear hso
        go_wp2_with fail
        have hp := HP.out
        go_roundg (os.length - j)
        case measure => omega
        case rel => exact ⟨j + 1, gs, by omega, by go_num, hwat, hide (fun g hg => (hok.out g hg).mono (Nat.le_succ j)), by omega, hbr, hzr, by omega⟩
    · have hltI : (os.length : Int) ≤ (j : Int) := by omega
      clear HP
      go_wp2_with fail
      go_ret
      exact ⟨rfl, hbr⟩
set_option maxHeartbeats 4000000 in
theorem tables_any (w : World) (hg : Glob w) (v : Value) (os : List StepD) (hs : ScriptIn w v os) : Calls Tryz.prog 3 #[v] w fun e w' => e = .returned (.bool true) ∧ Below w.heap.size w w' := by
  have H := hide (upTo_any w hg v os hs)
  clear hs hg
  go_enter Tryz.func3, Tryz.ntmps3
  go_wp2_with (go_at_call 15; refine H.out.mono ?_; rintro e w1 ⟨rfl, hb1⟩)
  go_ret
  exact ⟨rfl, hb1⟩
end Go.Proofs.YtbkeflgafjnefaaGreatDoor
