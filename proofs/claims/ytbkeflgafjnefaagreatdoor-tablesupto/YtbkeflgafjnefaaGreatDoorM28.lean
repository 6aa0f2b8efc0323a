/- Towards the law of tables: T5, T6, S8. -/
import Derived.Test.YtbkeflgafjnefaaGreatDoorM27
namespace Go.Proofs.YtbkeflgafjnefaaGreatDoor
open Go.RowKit
open Trib
/-- What the document's Delete leaves behind where the row is there. -/
def RDelOk (w : World) (tb : Nat) (nm cv : Value) (rs : List (Nat × Value)) (d : Nat) (e : Ending) (w' : World) : Prop :=
  e = .returned (.int .i64 0) ∧ ∃ rv', w'.heap[tb]? = some (.cells #[nm, cv, rv'] 292 (0, 0)) ∧ w'.ownsRow w.heap.size 295 2 rv' (rs.eraseIdx d).length (rowCells (rs.eraseIdx d)) ∧ Stp (fun q => q = tb) w w'
def RDelR (r : Option Nat) (w : World) (A : Nat → Ending → World → Prop) : Ending → World → Prop := match r with
  | none => fun e w' => e = .returned (.int .i64 8) ∧ w = w'
  | some d => A d
section
variable (b gt tcap nb i tb : Nat) (nm cv : Value) (ra : Option Addr) (rcap : Nat) (rs : List (Nat × Value)) (e1 e2 e3 e4 : Value) (name : ByteArray) (m : Int) (w : World)
    (hb : w.heap[b]? = some (.cells #[.slice (some ⟨gt, 0, none⟩) nb tcap, e1, e2, e3, e4] 91 (0, 0)))
    (cti : w.cell? ⟨gt, i, none⟩ = some (.pointer (some ⟨tb, 0, none⟩)))
    (htb : w.heap[tb]? = some (.cells #[nm, cv, .slice ra rs.length rcap] 292 (0, 0)))
    (hrr : w.ownsRow 0 295 2 (.slice ra rs.length rcap) rs.length (rowCells rs)) (h1c : ∀ u ∈ rowCells rs, u.oneCell' = true)
    (hi : i < nb) (hn : rs.length ≤ 1000)
    (HF : Hid (Calls Tryz.prog 167 #[.pointer (some ⟨b, 0, none⟩), .string name] w fun e w' => e = .returned (.int .i64 (i : Int)) ∧ w = w'))
include hb cti htb hrr h1c hi hn HF
set_option maxHeartbeats 8000000 in
set_option maxRecDepth 100000 in
theorem rdel_core :
    Calls Tryz.prog 111 #[.pointer (some ⟨b, 0, none⟩), .string name, .int .i64 m] w (RDelR (rs.findIdx? (fun r => (r.1 : Int) == m)) w (RDelOk w tb nm cv rs)) := by
  have cb0 : w.cell? ⟨b, 0, none⟩ = some (.slice (some ⟨gt, 0, none⟩) nb tcap) := blkCell hb (i := 0) rfl
  have ct2 : w.cell? ⟨tb, 2, none⟩ = some (.slice ra rs.length rcap) := blkCell htb (i := 2) rfl
  have hlt : tb < w.heap.size := (Array.getElem?_eq_some_iff.1 htb).1
  have hi' : (i : Int) < (nb : Int) := by omega
  have hi0 : (0 : Int) ≤ (i : Int) := by omega
  have HTB := hide htb
  have H1C := hide h1c
  obtain ⟨i1, hi1, hy0, hy1, hy2⟩ := info_parts infoRRow
  clear hb htb h1c
  go_enter Tryz.func111, Tryz.ntmps111
  go_wp2_with (go_at_call 167; refine HF.out.mono ?_; rintro e w2 ⟨rfl, rfl⟩)
  go_loopg [9] (rs.length + 1) (fun p ix wr => ∃ (j : Nat), j ≤ rs.length ∧ ix = .int .i64 (j : Int) ∧ Hid (NoRow rs m j) ∧ w = wr ∧ rs.length - j < p)
  case atStart => exact ⟨0, Nat.zero_le _, rfl, hide (fun i hi _ => absurd hi (Nat.not_lt_zero _)), rfl, by omega⟩
  case round =>
    obtain ⟨j, hj, rfl, hno, rfl, hp⟩ := hrel
    have HP := hide hp
    clear hp
    by_cases hlt' : j < rs.length
    · have hltI : (j : Int) < (rs.length : Int) := by omega
      obtain ⟨h1, h2⟩ := rowCells_at rs j hlt'
      rcases hrr.2 with ⟨e', h0⟩ | ⟨gr, cap', cur, e', -, hgb, hcap, hcm, -⟩
      · omega
      obtain ⟨rfl, rfl⟩ : ra = some ⟨gr, 0, none⟩ ∧ rcap = cap' := by
        injection e' with e1 e2 e3
        exact ⟨e1, e3⟩
      have hgl : gr < w.heap.size := (Array.getElem?_eq_some_iff.1 hgb).1
      have c1 := rowCell hrr h1
      have hwr : IntKind.i64.wrap ((j : Int) + 1) = (j : Int) + 1 := by rw [IntKind.wrap_i64]; omega
      by_cases he : (rs[j].1 : Int) = m
      · have HFD := hide (noRow_some hno.out hlt' he)
        have hjc : j ≤ rcap := by omega
        have hjc1 : j + 1 ≤ rcap := by omega
        have hj1 : (j : Int) + 1 ≤ (rs.length : Int) := by omega
        have hj0 : (0 : Int) ≤ (j : Int) + 1 := by omega
        rw [he] at c1
        have hlrc : (rowCells rs).length = rs.length * 2 := rowCells_len rs
        have hcells : ∀ (W : World), W.heap[gr]? = w.heap[gr]? → ∀ (t : Nat) u, (rowCells rs)[t]? = some u → W.cell? ⟨gr, t, none⟩ = some u := fun W hW t u hu => (World.cell?_of_block hW).trans (rowCell hrr hu)
        have L1 : Hid (((rowCells rs).take (j * 2)).length = j * 2) := hide (by rw [List.length_take]; omega)
        have C1 : Hid (∀ (W : World), W.heap[gr]? = w.heap[gr]? → ∀ t u, ((rowCells rs).take (j * 2))[t]? = some u → W.cell? ((⟨gr, 0, none⟩ : Addr).add t) = some u) := hide (fun W hW t u hu => by
          have ht := (List.getElem?_eq_some_iff.1 hu).1
          rw [List.length_take] at ht
          rw [List.getElem?_take, if_pos (by omega)] at hu
          rw [Addr.add_lit, Nat.zero_add]
          exact hcells W hW t u hu)
        have O1 : Hid (∀ u ∈ (rowCells rs).take (j * 2), u.oneCell' = true) := hide (fun u hu => H1C.out u (List.mem_of_mem_take hu))
        have L2 : Hid (((rowCells rs).drop (j * 2 + 2)).length = (rs.length - (j + 1)) * 2) := hide (by rw [List.length_drop]; omega)
        have O2 : Hid (∀ u ∈ (rowCells rs).drop (j * 2 + 2), u.oneCell' = true) := hide (fun u hu => H1C.out u (List.mem_of_mem_drop hu))
        obtain ⟨A, hA, C2⟩ : ∃ A : Addr, (if rcap = j + 1 then some (⟨gr, 0, none⟩ : Addr) else some ⟨gr, (j + 1) * 2, none⟩) = some A ∧ Hid (∀ (W : World), W.heap[gr]? = w.heap[gr]? → ∀ t u, ((rowCells rs).drop (j * 2 + 2))[t]? = some u → W.cell? (A.add t) = some u) := by
          by_cases h : rcap = j + 1
          · refine ⟨⟨gr, 0, none⟩, by simp [h], fun W hW t u hu => ?_⟩
            have ht := (List.getElem?_eq_some_iff.1 hu).1
            rw [L2.out] at ht
            omega
          · refine ⟨⟨gr, (j + 1) * 2, none⟩, by simp [h], fun W hW t u hu => ?_⟩
            rw [Addr.add_lit]
            rw [List.getElem?_drop] at hu
            refine hcells W hW _ u ?_
            rw [← hu]; congr 1; omega
        have HER := hide (rowCells_erase rs j)
        have HEL : Hid ((rs.eraseIdx j).length = rs.length - 1) := hide (by rw [List.length_eraseIdx, if_pos hlt'])
        generalize (rowCells rs).take (j * 2) = news1 at *
        generalize (rowCells rs).drop (j * 2 + 2) = news2 at *
        clear hno e' hgb h1 h2 he hlrc hcells H1C
        have HW1 : Hid (∀ w1, (w.alloc (.cells #[] 295)).grownBy w1 (some w.heap.size) → Below w.heap.size w w1) := hide (fun w1 hg => ((Below.refl _ _).alloc (Nat.le_refl _) _).grown hg (by simp) (fun k e => by have := Option.some.inj e; omega))
        go_upto_region 10 with (at_builtin; refine wpList_append_own _ rfl _ _ 290 rfl w.heap.size 295 i1 (.agg #[.int .i64 0, .slice none 0 0]) 2 32 Tryz.underlying290 hi1 hy0 hy1 hy2 rfl (by decide) _ 0 [] rfl (World.ownsRow_made w #[] 0 (Nat.le_refl _) (Nat.zero_le _) rfl) ⟨gr, 0, none⟩ j rcap news1 rfl L1.out (C1.out _ (Below.heap_alloc w _ gr hgl)) O1.out (by unfold maxLen; omega) (by omega) (by simp) ?_; intro v1 w1 hown1 hgrow1 _)
        rw [Nat.zero_add, List.nil_append] at hown1
        have hb1 : Below w.heap.size w w1 := HW1.out w1 hgrow1
        have z1 := hb1.size
        have hT1 := (hb1.block tb hlt).trans HTB.out
        have d2 : w1.cell? ⟨tb, 2, none⟩ = some (.slice (some ⟨gr, 0, none⟩) rs.length rcap) := blkCell hT1 (i := 2) rfl
        obtain ⟨a1, cap1, rfl⟩ := rowShape hown1
        have hgr1 := hb1.block gr hgl
        have hap1 : (Value.slice a1 j cap1).ownBlock ≠ some tb := fun e => by have := (hown1.lt tb e).1; omega
        clear HW1 ct2 c1 cb0 cti HF hgrow1 C1 L1 O1
        go_wp2_with (at_builtin; refine wpList_append_own _ rfl _ _ 290 rfl w.heap.size 295 i1 (.agg #[.int .i64 0, .slice none 0 0]) 2 32 Tryz.underlying290 hi1 hy0 hy1 hy2 rfl (by decide) _ j news1 rfl hown1 A (rs.length - (j + 1)) (rcap - (j + 1)) news2 rfl L2.out (C2.out _ hgr1) O2.out (by unfold maxLen; omega) (by omega) z1 ?_; intro v2 w2 hown2 hgrow2 _; obtain ⟨a2, cap2, rfl⟩ := rowShape hown2; have hT2 := (hgrow2.block tb (Nat.lt_of_lt_of_le hlt z1) (fun e => hap1 e.symm)).trans hT1; have x2 := blkCell hT2 (i := 2) rfl; have xf2 := blkFree (i := 2) hT2)
        go_ret
        rw [HFD.out]
        have hlo := hown1.lt
        have hap2 : (Value.slice a2 (j + (rs.length - (j + 1))) cap2).ownBlock ≠ some tb := fun e => by have := (hown2.lt tb e).1; omega
        refine ⟨rfl, .slice a2 (j + (rs.length - (j + 1))) cap2, (Blk.set (F := fun _ => True) ⟨trivial, hT2⟩ 2 _).2, ?_, ?_⟩
        · rw [HEL.out, ← HER.out]
          have hh := ownsRow_setCell_other hown2 (a := ⟨tb, 2, none⟩) hap2 (.slice a2 (j + (rs.length - (j + 1))) cap2)
          have ee : j + (rs.length - (j + 1)) = rs.length - 1 := by omega
          rw [ee] at hh ⊢
          exact hh
        · have hbb : Below w.heap.size w w2 := hb1.grown hgrow2 z1 (fun k hk => (hlo k hk).1)
          exact (Stp.of hbb).andThen (Stp.set tb 2 _ rfl)
      · have HN : Hid (NoRow rs m (j + 1)) := hide (fun a ha h => by
          by_cases e1 : a = j
          · subst e1; exact he
          · exact hno.out a (by omega) h)
        have heb : ((rs[j].1 : Int) == m) = false := beq_eq_false_iff_ne.2 he
        clear hno e' hgb h1 h2 he
        go_wp2_with fail
        have hp := HP.out
        go_roundg (rs.length - j)
        case measure => omega
        case rel => exact ⟨j + 1, by omega, by go_num, HN, rfl, by omega⟩
    · have hltI : (rs.length : Int) ≤ (j : Int) := by omega
      have hje : j = rs.length := by omega
      have HFD := hide (noRow_none (hje ▸ hno.out))
      clear hno hje
      go_wp2_with fail
      go_ret
      rw [HFD.out]
      exact ⟨rfl, rfl⟩
end
set_option maxHeartbeats 4000000 in
theorem rdelete_none {F : Nat → Prop} {w : World} {b : Nat} {lv gv : Value} {g : Eng} {N : Nat} (h : REngAt F w b lv gv g) (ok : EngOk N g) (name : ByteArray) (m : Int) (hf : findT g.tables name = none) :
    Calls Tryz.prog 111 #[.pointer (some ⟨b, 0, none⟩), .string name, .int .i64 m] w fun e w' => e = .returned (.int .i64 8) ∧ REngAt (Gro F w) w' b lv gv g ∧ Stp F w w' := by
  have HE := hide (h.move (Mov.gro (Below.refl w.heap.size w)))
  obtain ⟨c, tv, nv, bs, h0, h1, h2, h4, h3⟩ := h
  have HF := hide (REngAt.find h0 h1 h2 h3 ok.six name)
  rw [hf, show idxB none = -1 from rfl] at HF
  clear h0 h1 h2 h3 h4 hf ok
  go_enter Tryz.func111, Tryz.ntmps111
  go_wp2_with (go_at_call 167; refine HF.out.mono ?_; rintro e w2 ⟨rfl, rfl⟩)
  go_ret
  exact ⟨rfl, HE.out, Stp.refl _ _⟩
theorem rdelete_any {F : Nat → Prop} {w : World} {b : Nat} {lv gv : Value} {g : Eng} {N : Nat} (h : REngAt F w b lv gv g) (ok : EngOk N g) (name : ByteArray) (m : Int) :
    Calls Tryz.prog 111 #[.pointer (some ⟨b, 0, none⟩), .string name, .int .i64 m] w fun e w' => e = .returned (.int .i64 ((deleteE g name m).1 : Int)) ∧ REngAt (Gro F w) w' b lv gv (deleteE g name m).2 ∧ Stp F w w' := by
  cases hf : findT g.tables name with
  | none => rw [deleteE_none hf]; exact rdelete_none h ok name m hf
  | some i =>
    have hi := findT_lt hf
    rw [deleteE_at hf hi]
    have hE := h
    obtain ⟨c, tv, nv, bs, h0, h1, h2, h4, h3⟩ := h
    have hib : i < bs.length := by omega
    have hok := ok.tabs _ (List.getElem_mem hi)
    have HF := REngAt.find h0 h1 h2 h3 ok.six name
    rw [hf] at HF
    obtain ⟨cv, rv, rs, t1, t2, t3, t4⟩ := h3 i hib hi
    have hrl := t4.len
    have h20 := hok.r20
    have hfe := t4.find m
    obtain ⟨gt, tcap, rfl, htc, hFt, hgt⟩ := h2.got (by omega)
    obtain ⟨gn, ncap, rfl, hnc, hFn, hgn⟩ := h4.got (by omega)
    rw [← hrl] at t3
    obtain ⟨ra, rcap, rfl⟩ := t3.shape
    have core := rdel_core b gt tcap bs.length i bs[i] (.string g.tables[i].name) cv ra rcap rs _ lv gv (.int .i64 g.clock) name m w h1.2 (h2.cells (by unfold ptrsR; rw [List.getElem?_map, List.getElem?_eq_getElem hib]; rfl)) t1.2 t3.1 t4.one hib (by omega) (hide HF)
    refine core.mono ?_
    intro e w' hr
    rw [hfe] at hr
    unfold deleteT
    cases hd : g.tables[i].rows.findIdx? (fun r => (r.1 : Int) == m) with
    | none =>
      rw [hd] at hr
      obtain ⟨rfl, rfl⟩ := hr
      simp only
      rw [set_same g i hi]
      exact ⟨rfl, hE.move (Mov.gro (Below.refl w.heap.size w)), Stp.refl _ _⟩
    | some d =>
      rw [hd] at hr
      obtain ⟨rfl, rv', htb, hrw, hstp⟩ := hr
      have hgnb : ∃ cur, w.heap[gn]? = some (.cells cur 3 (0, 0)) := by
        rcases h4.1.2 with ⟨e', _⟩ | ⟨g', cap', cur, e', _, hgb, _⟩
        · cases e'
        · obtain rfl : gn = g' := by simpa using (Value.slice.inj e').1
          exact ⟨cur, hgb⟩
      obtain ⟨ncur, hgnb⟩ := hgnb
      have hgt : gn ≠ bs[i] := fun e => h4.apart t1.2 (by decide) (by rw [e]; rfl)
      have mv : ∀ {e : TypeId} {size n : Nat} {x : Value} {xs : List Value}, RowF (colr F c (i + 1)) w e size x n xs → 292 ≠ e → RowF (Gro (colr F c (i + 1)) w) w' e size x n xs := fun {e size n x xs} hx e1 =>
        hx.keep (fun k _ hk hgb hlt hF => ⟨Gro.old hlt hF, hstp.block k hlt (by
          rintro rfl
          exact hx.apart t1.2 e1 hk)⟩)
      have hl2 := (t4.erase d).len
      have ht : RTbAt (Gro (colr F c (i + 1)) w) w' bs[i] { g.tables[i] with rows := g.tables[i].rows.eraseIdx d } :=
        ⟨cv, rv', rs.eraseIdx d, ⟨Gro.any t1.1, htb⟩, mv t2 (by decide), by rw [← hl2]; exact RowF.new hrw (fun k hk => Gro.new hk), (t4.erase d).keep (fun hx => mv hx (by decide))⟩
      have hnx : w'.ownsRow 0 3 1 (.slice (some ⟨gn, 0, none⟩) bs.length ncap) bs.length (nexts (g.tables.set i { g.tables[i] with rows := g.tables[i].rows.eraseIdx d })) := by
        have e1 : nexts (g.tables.set i { g.tables[i] with rows := g.tables[i].rows.eraseIdx d }) = nexts g.tables := by
          rw [nexts_set]
          have := nexts_at hi
          rw [List.getElem?_eq_some_iff] at this
          obtain ⟨hl, he⟩ := this
          show (nexts g.tables).set i (.int .i64 ((g.tables[i].last + 1 : Nat) : Int)) = _
          rw [← he, List.set_getElem_self]
        rw [e1]
        exact (h4.keep (F' := fun _ => True) (fun k _ hk hgb hlt hF => ⟨trivial, hstp.block k hlt (by
          rintro rfl
          exact h4.apart t1.2 (by decide) hk)⟩)).1
      have turn := REngAt.turn h0 h1 h2 h3 i hib _ ht (hstp.mono (fun k _ hk => by
        subst hk; exact .inl t1.1)) h4 ⟨hnx, h4.2⟩ (h4.apart h1.2 (by decide)) (fun k hk => by
          obtain rfl : gn = k := by simpa [Value.ownBlock] using hk
          exact h2.apart hgnb (by decide))
      exact ⟨rfl, turn⟩
end Go.Proofs.YtbkeflgafjnefaaGreatDoor
namespace Go.Proofs.YtbkeflgafjnefaaGreatDoor
open Go.RowKit
open Trib
/-- What the document's Create leaves behind where a table is made. -/
def RCreOk (w : World) (b : Nat) (tv nv lv gv ck : Value) (bs : List Nat) (ns : List Value) (name : ByteArray) (l : List (ByteArray × Nat)) (w' : World) : Prop :=
  ∃ cv k tv' nv', w'.ownsRow w.heap.size 285 2 cv l.length (rcolCells l) ∧ w.heap.size ≤ k ∧ w'.heap[k]? = some (.cells #[.string name, cv, .slice none 0 0] 292 (0, 0)) ∧ w'.heap[b]? = some (.cells #[tv', nv', lv, gv, ck] 91 (0, 0)) ∧ w'.ownsRow 0 287 1 tv' (bs.length + 1) (ptrsR bs ++ [.pointer (some ⟨k, 0, none⟩)]) ∧ w'.ownsRow 0 3 1 nv' (bs.length + 1) (ns ++ [.int .i64 1]) ∧ (∀ q, tv'.ownBlock = some q → tv.ownBlock = some q ∨ w.heap.size ≤ q) ∧ (∀ q, nv'.ownBlock = some q → nv.ownBlock = some q ∨ w.heap.size ≤ q) ∧ Stp (fun q => q = b ∨ tv.ownBlock = some q ∨ nv.ownBlock = some q) w w'
/-- What the document's Create answers. -/
def RCreR (found : Bool) (b : Nat) (tv nv lv gv ck : Value) (bs : List Nat) (ns : List Value) (name cols : ByteArray) (w : World) (e : Ending) (w' : World) : Prop :=
  if nameB name.data.toList then
    match colsOf cols.data.toList with
    | none => e = .returned (.int .i64 1) ∧ Below w.heap.size w w'
    | some l => if found || name == logB || name == touchB || twins l then e = .returned (.int .i64 3) ∧ Below w.heap.size w w'
      else if 6 ≤ bs.length then e = .returned (.int .i64 7) ∧ Below w.heap.size w w'
      else e = .returned (.int .i64 0) ∧ RCreOk w b tv nv lv gv ck bs ns name l w'
  else e = .returned (.int .i64 1) ∧ Below w.heap.size w w'
theorem RCreR.text {found : Bool} {b : Nat} {tv nv lv gv ck : Value} {bs : List Nat} {ns : List Value} {name cols : ByteArray} {w : World} {e : Ending} {w' : World} (h : nameB name.data.toList = false ∨ colsOf cols.data.toList = none) (he : e = .returned (.int .i64 1)) (hb : Below w.heap.size w w') : RCreR found b tv nv lv gv ck bs ns name cols w e w' := by
  unfold RCreR
  split
  · rename_i hn
    rcases h with h | h
    · rw [h] at hn; cases hn
    · rw [h]; exact ⟨he, hb⟩
  · exact ⟨he, hb⟩
theorem split_short (c : UInt8) : ∀ (l : List UInt8), (splitB c l).length ≤ l.length + 1
  | [] => by simp [splitB]
  | a :: r => by
    have ih := split_short c r
    rw [splitB]
    split
    · simp; omega
    · split
      · simp
      · rename_i h t e
        rw [e] at ih
        simp at ih ⊢
        omega
theorem alloc_size (w : World) (o : Obj) : (w.alloc o).heap.size = w.heap.size + 1 := by simp
theorem one_new2 (w : World) (A : Obj) (a : Value) (t : TypeId) : ∀ j u, ([a] : List Value)[j]? = some u → ((w.alloc A).alloc (.cells #[a] t)).cell? ((⟨w.heap.size + 1, 0, none⟩ : Addr).add j) = some u := by
  have h := one_new (w.alloc A) a t
  rwa [show (w.alloc A).heap.size = w.heap.size + 1 from by simp] at h
theorem RCreR.three {found : Bool} {b : Nat} {tv nv lv gv ck : Value} {bs : List Nat} {ns : List Value} {name cols : ByteArray} {w w' : World} {l : List (ByteArray × Nat)} (hn : nameB name.data.toList = true) (hc : colsOf cols.data.toList = some l) (h : (found || name == logB || name == touchB || twins l) = true) (hb : Below w.heap.size w w') : RCreR found b tv nv lv gv ck bs ns name cols w (.returned (.int .i64 3)) w' := by
  unfold RCreR; rw [hn, if_pos rfl, hc]; simp only; rw [h, if_pos rfl]; exact ⟨trivial, hb⟩
theorem RCreR.seven {found : Bool} {b : Nat} {tv nv lv gv ck : Value} {bs : List Nat} {ns : List Value} {name cols : ByteArray} {w w' : World} {l : List (ByteArray × Nat)} (hn : nameB name.data.toList = true) (hc : colsOf cols.data.toList = some l) (h : (found || name == logB || name == touchB || twins l) = false) (h6 : 6 ≤ bs.length) (hb : Below w.heap.size w w') : RCreR found b tv nv lv gv ck bs ns name cols w (.returned (.int .i64 7)) w' := by
  unfold RCreR; rw [hn, if_pos rfl, hc]; simp only; rw [h, if_neg (by decide), if_pos h6]; exact ⟨trivial, hb⟩
theorem RCreR.nought {found : Bool} {b : Nat} {tv nv lv gv ck : Value} {bs : List Nat} {ns : List Value} {name cols : ByteArray} {w w' : World} {l : List (ByteArray × Nat)} (hn : nameB name.data.toList = true) (hc : colsOf cols.data.toList = some l) (h : (found || name == logB || name == touchB || twins l) = false) (h6 : ¬ 6 ≤ bs.length) (hb : RCreOk w b tv nv lv gv ck bs ns name l w') : RCreR found b tv nv lv gv ck bs ns name cols w (.returned (.int .i64 0)) w' := by
  unfold RCreR; rw [hn, if_pos rfl, hc]; simp only; rw [h, if_neg (by decide), if_neg h6]; exact ⟨trivial, hb⟩
theorem ColsTo.start {cols : ByteArray} {ts : List ByteArray} (h : splitB 44 cols.data.toList = ts.map (·.data.toList)) : ColsTo cols ts 0 [] := by
  refine ⟨?_, rfl, rfl⟩
  unfold colsOf
  rw [h, List.length_map]
theorem bytes_lit {k : ByteArray} {l : List UInt8} (h : k.data.toList = l) : k = bytesL l := bytesL_inj h
section
variable (b : Nat) (tv nv lv gv ck : Value) (bs : List Nat) (ns : List Value) (found : Bool) (fi : Int) (name cols : ByteArray) (w : World)
    (hb : w.heap[b]? = some (.cells #[tv, nv, lv, gv, ck] 91 (0, 0)))
    (htr : w.ownsRow 0 287 1 tv bs.length (ptrsR bs)) (hnr : w.ownsRow 0 3 1 nv bs.length ns) (hbl : bs.length ≤ 1000)
    (HF : Hid (∀ w', Below w.heap.size w w' → Calls Tryz.prog 167 #[.pointer (some ⟨b, 0, none⟩), .string name] w' fun e w2 => e = .returned (.int .i64 fi) ∧ w' = w2)) (hfi : decide (0 ≤ fi) = found) (hs1 : name.size ≤ 2000000) (hs2 : cols.size ≤ 2000000)
include hb htr hnr hbl HF hfi hs1 hs2
set_option maxHeartbeats 8000000 in
set_option maxRecDepth 100000 in
theorem rcre_core : Calls Tryz.prog 109 #[.pointer (some ⟨b, 0, none⟩), .string name, .string cols] w (RCreR found b tv nv lv gv ck bs ns name cols w) := by
  have HB := hide hb
  have HFI := hide hfi
  have hlb : b < w.heap.size := (Array.getElem?_eq_some_iff.1 hb).1
  clear hb hfi
  have HNM := hide (fun W => Name_any name W (by unfold maxLen; omega))
  have HTX : Hid (∀ e w', (nameB name.data.toList = false ∨ colsOf cols.data.toList = none) → e = .returned (.int .i64 1) → Below w.heap.size w w' → RCreR found b tv nv lv gv ck bs ns name cols w e w') := hide (fun e w' h1 h2 h3 => RCreR.text h1 h2 h3)
  cases hn : nameB name.data.toList
  · rw [hn] at HNM
    have HNN := hide hn
    clear hn
    go_enter Tryz.func109, Tryz.ntmps109
    go_wp2_with (go_at_call 165; refine (HNM.out w).mono ?_; rintro e w1 ⟨rfl, rfl⟩)
    go_ret
    exact HTX.out _ _ (.inl HNN.out) rfl (Below.refl _ _)
  · rw [hn] at HNM
    have HNN := hide hn
    have HSP := hide (split_any 44 cols 44 rfl w hs2)
    obtain ⟨i0, hii, hz0, hz1, hz2⟩ := info_parts infoRCol
    clear hn
    generalize hR : RCreR found b tv nv lv gv ck bs ns name cols w = R at *
    have HR := hide hR
    clear hR
    go_enter Tryz.func109, Tryz.ntmps109
    go_wp2_with (first | (go_at_call 165; refine (HNM.out w).mono ?_; rintro e w1 ⟨rfl, rfl⟩) | (go_at_call 166; refine HSP.out.mono ?_; rintro e wS ⟨pv, ts, rfl, hsplit, hsz, hts, hbS⟩; obtain ⟨pa, pcap, rfl⟩ := rowShape hts))
    have HST := hide (ColsTo.start hsplit)
    have HSZ := hide hsz
    have hlts : ts.length ≤ 2000001 := (by have h1 := congrArg List.length hsplit; rw [List.length_map] at h1; have h2 := split_short 44 cols.data.toList; rw [lenB] at h2; omega)
    clear hsplit hsz HSP
    have zS := hbS.size
    go_loopg [8, 10] (ts.length + 1) (fun p lvv ix wr => ∃ (j : Nat) (l : List (ByteArray × Nat)), j ≤ ts.length ∧ ix = .int .i64 (j : Int) ∧ Hid (ColsTo cols ts j l) ∧ wr.ownsRow wS.heap.size 285 2 lvv l.length (rcolCells l) ∧ Below wS.heap.size wS wr ∧ j ≤ 4 ∧ ts.length - j < p)
    case atStart => exact ⟨0, [], Nat.zero_le _, rfl, HST, World.ownsRow_nil _ _ _ _, Below.refl _ _, Nat.zero_le _, by omega⟩
    case round =>
      obtain ⟨j, l, hj, rfl, hcols, hown, hbel, hj4, hp⟩ := hrel
      have HP := hide hp
      have HLL : Hid (l.length = j) := hide hcols.out.2.2
      clear hp
      have zr := hbel.size
      obtain ⟨la, lcap, rfl⟩ := rowShape hown
      have hbw := hbS.trans (hbel.mono zS)
      by_cases hlt : j < ts.length
      · have hltI : (j : Int) < (ts.length : Int) := by omega
        have hwr : IntKind.i64.wrap ((j : Int) + 1) = (j : Int) + 1 := by rw [IntKind.wrap_i64]; omega
        rcases hts.2 with ⟨e', h0⟩ | ⟨gp, cap', cur, e', hgp, hgb, -⟩
        · omega
        obtain ⟨rfl, rfl⟩ : pa = some ⟨gp, 0, none⟩ ∧ pcap = cap' := by
          injection e' with e1 e2 e3
          exact ⟨e1, e3⟩
        have hgpl : gp < wS.heap.size := (Array.getElem?_eq_some_iff.1 hgb).1
        have cp : wr.cell? ⟨gp, j, none⟩ = some (.string ts[j]) := cell_below hbel (rowCell (rowLow (Nat.zero_le _) hts) (by rw [List.getElem?_map, List.getElem?_eq_getElem hlt]; rfl)) hgpl
        have HSJ := hide (split_any 58 ts[j] 58 rfl wr (by have := HSZ.out _ (List.getElem_mem hlt); omega))
        clear e' hgb
        go_upto_region 10 with (go_at_call 166; refine HSJ.out.mono ?_; rintro e w2 ⟨qv, qs, rfl, hsp, hqz, hqs, hb2⟩; obtain ⟨qa, qcap, rfl⟩ := rowShape hqs)
        have hb3 := hbw.trans (hb2.mono (Nat.le_trans zS zr))
        have z2 := hb2.size
        have HSPJ := hide hsp
        clear hsp HSJ
        have hBAD : colOf ts[j].data.toList = none → colsOf cols.data.toList = none := fun h => hcols.out.bad hlt h
        by_cases hq2 : qs.length = 2
        · obtain ⟨n, k, rfl⟩ : ∃ n k, qs = [n, k] := by
            match qs, hq2 with
            | [n, k], _ => exact ⟨n, k, rfl⟩
          rcases hqs.2 with ⟨e', h0⟩ | ⟨gq, cap', cur, e', hgq, hgb, -⟩
          · cases h0
          obtain ⟨rfl, rfl⟩ : qa = some ⟨gq, 0, none⟩ ∧ qcap = cap' := by
            injection e' with e1 e2 e3
            exact ⟨e1, e3⟩
          have q0 : w2.cell? ⟨gq, 0, none⟩ = some (.string n) := rowCell (rowLow (Nat.zero_le _) hqs) rfl
          have q1 : w2.cell? ⟨gq, 1, none⟩ = some (.string k) := rowCell (rowLow (Nat.zero_le _) hqs) rfl
          have hcol := colOf_two HSPJ.out
          have hnz : n.size ≤ 2000000 := by have := hqz n (by simp); have := HSZ.out _ (List.getElem_mem hlt); omega
          have hown2 := rowBel hown hb2
          clear e' hgb hq2 hqz hown HSPJ
          have HNQ := hide (fun W => Name_any n W (by unfold maxLen; omega))
          -- the kind of the column
          have hkind : (∃ kc, (kc = 1 ∨ kc = 2) ∧ (k = ⟨#[105]⟩ ∧ kc = 1 ∨ k = ⟨#[116]⟩ ∧ kc = 2)) ∨ (¬ k.data.toList = [105] ∧ ¬ k.data.toList = [116]) := by
            by_cases h1 : k.data.toList = [105]
            · exact .inl ⟨1, .inl rfl, .inl ⟨bytes_lit h1, rfl⟩⟩
            · by_cases h2 : k.data.toList = [116]
              · exact .inl ⟨2, .inr rfl, .inr ⟨bytes_lit h2, rfl⟩⟩
              · exact .inr ⟨h1, h2⟩
          rcases hkind with ⟨kc, hkc, hk⟩ | ⟨h1, h2⟩
          · rcases hk with ⟨rfl, rfl⟩ | ⟨rfl, rfl⟩
            · have hcol' : colOf ts[j].data.toList = if nameB n.data.toList then some (n, 1) else none := by
                rw [hcol]; rfl
              clear hcol
              have HMANY : Hid (4 ≤ j → colsOf cols.data.toList = none) := hide (fun h => hcols.out.many (by omega))
              by_cases hj4' : j < 4
              · have hj4I : (j : Int) < 4 := by omega
                cases hnm : nameB n.data.toList
                · rw [hnm] at HNQ hcol'
                  have HNO := hide (hBAD (by rw [hcol']; rfl))
                  clear hBAD hcol' hnm
                  go_wp2_with (go_at_call 165; refine (HNQ.out w2).mono ?_; rintro e w3 ⟨rfl, rfl⟩)
                  exact HTX.out _ _ (.inr HNO.out) rfl hb3
                · rw [hnm] at HNQ hcol'
                  have HNX := hide (hcols.out.next hlt hcol')
                  have HSN : Hid (rcolCells (l ++ [(n, 1)]) = rcolCells l ++ [.string n, .int .u8 105]) := hide (rcolCells_snoc l (n, 1))
                  clear hBAD hcol' hnm HMANY hcols
                  have hl4 : l.length ≤ 4 := by have := HLL.out; omega
                  have z3 := hb3.size
                  go_upto_region 15 with (go_at_call 165; refine (HNQ.out w2).mono ?_; rintro e w3 ⟨rfl, rfl⟩)
                  go_region_law (refine step_append_lies _ (by rfl) _ _ 282 (by rfl) wS.heap.size 285 i0 (.agg #[.string ⟨#[]⟩, .int .u8 0]) 2 24 Tryz.underlying282 hii hz0 hz1 hz2 rfl (by decide) (.slice la l.length lcap) l.length (rcolCells l) (by rfl) (hown2.alloc _) ⟨w2.heap.size, 0, none⟩ 1 1 [.string n, .int .u8 105] (by rfl) (by rfl) (tok_new _ _ _ _) (by simp [Value.oneCell']) (by decide) (by unfold maxLen; omega) (by omega) (by simp; omega) (w2.heap.size + 1) (by simp) ?_; intro g5 cap5 w5 hown5 hgrow5 hat5 hlt5)
                  all_goals
                    have hp := HP.out
                    have hlo := hown2.lt
                    have hbl5 : Below wS.heap.size wS w5 := by first | exact ((hbel.trans (hb2.mono zr)).alloc (by omega) _).grown hgrow5 (by simp; omega) (fun k hk => (hlo k hk).1) | exact (((hbel.trans (hb2.mono zr)).alloc (by omega) _).drew).grown hgrow5 (by simp [World.drew]; omega) (fun k hk => (hlo k hk).1)
                    rw [← HSN.out] at hown5
                    clear HSN
                    go_wp2_with fail
                    go_roundg (ts.length - j)
                    case measure => omega
                    case rel => exact ⟨j + 1, l ++ [(n, 1)], by omega, by go_num, HNX, by rw [List.length_append]; exact hown5, hbl5, by omega, by omega⟩
              · have hj4I : (4 : Int) ≤ (j : Int) := by omega
                have HNO := hide (HMANY.out (by omega))
                clear hBAD hcol' HMANY
                go_wp2_with fail
                exact HTX.out _ _ (.inr HNO.out) rfl hb3
            · have hcol' : colOf ts[j].data.toList = if nameB n.data.toList then some (n, 2) else none := by
                rw [hcol]; rfl
              clear hcol
              have HMANY : Hid (4 ≤ j → colsOf cols.data.toList = none) := hide (fun h => hcols.out.many (by omega))
              by_cases hj4' : j < 4
              · have hj4I : (j : Int) < 4 := by omega
                cases hnm : nameB n.data.toList
                · rw [hnm] at HNQ hcol'
                  have HNO := hide (hBAD (by rw [hcol']; rfl))
                  clear hBAD hcol' hnm
                  go_wp2_with (go_at_call 165; refine (HNQ.out w2).mono ?_; rintro e w3 ⟨rfl, rfl⟩)
                  exact HTX.out _ _ (.inr HNO.out) rfl hb3
                · rw [hnm] at HNQ hcol'
                  have HNX := hide (hcols.out.next hlt hcol')
                  have HSN : Hid (rcolCells (l ++ [(n, 2)]) = rcolCells l ++ [.string n, .int .u8 116]) := hide (rcolCells_snoc l (n, 2))
                  clear hBAD hcol' hnm HMANY hcols
                  have hl4 : l.length ≤ 4 := by have := HLL.out; omega
                  have z3 := hb3.size
                  go_upto_region 15 with (go_at_call 165; refine (HNQ.out w2).mono ?_; rintro e w3 ⟨rfl, rfl⟩)
                  go_region_law (refine step_append_lies _ (by rfl) _ _ 282 (by rfl) wS.heap.size 285 i0 (.agg #[.string ⟨#[]⟩, .int .u8 0]) 2 24 Tryz.underlying282 hii hz0 hz1 hz2 rfl (by decide) (.slice la l.length lcap) l.length (rcolCells l) (by rfl) (hown2.alloc _) ⟨w2.heap.size, 0, none⟩ 1 1 [.string n, .int .u8 116] (by rfl) (by rfl) (tok_new _ _ _ _) (by simp [Value.oneCell']) (by decide) (by unfold maxLen; omega) (by omega) (by simp; omega) (w2.heap.size + 1) (by simp) ?_; intro g5 cap5 w5 hown5 hgrow5 hat5 hlt5)
                  all_goals
                    have hp := HP.out
                    have hlo := hown2.lt
                    have hbl5 : Below wS.heap.size wS w5 := by first | exact ((hbel.trans (hb2.mono zr)).alloc (by omega) _).grown hgrow5 (by simp; omega) (fun k hk => (hlo k hk).1) | exact (((hbel.trans (hb2.mono zr)).alloc (by omega) _).drew).grown hgrow5 (by simp [World.drew]; omega) (fun k hk => (hlo k hk).1)
                    rw [← HSN.out] at hown5
                    clear HSN
                    go_wp2_with fail
                    go_roundg (ts.length - j)
                    case measure => omega
                    case rel => exact ⟨j + 1, l ++ [(n, 2)], by omega, by go_num, HNX, by rw [List.length_append]; exact hown5, hbl5, by omega, by omega⟩
              · have hj4I : (4 : Int) ≤ (j : Int) := by omega
                have HNO := hide (HMANY.out (by omega))
                clear hBAD hcol' HMANY
                go_wp2_with fail
                exact HTX.out _ _ (.inr HNO.out) rfl hb3
          · rw [if_neg h1, if_neg h2] at hcol
            have HNO := hide (hBAD (by rw [hcol]; split <;> rfl))
            have g1 : (k.toList == [105]) = false := by rw [beq_eq_false_iff_ne, ByteArray.toList_eq]; exact h1
            have g2 : (k.toList == [116]) = false := by rw [beq_eq_false_iff_ne, ByteArray.toList_eq]; exact h2
            clear hBAD hcol h1 h2
            go_wp2_with fail
            exact HTX.out _ _ (.inr HNO.out) rfl hb3
        · have hq2b : ((qs.length : Int) != 2) = true := bne_iff_ne.2 (by omega)
          have HNO := hide (hBAD (colOf_else HSPJ.out hq2))
          clear hBAD hq2
          go_wp2_with fail
          exact HTX.out _ _ (.inr HNO.out) rfl hb3
      · obtain ⟨wE, rfl⟩ : ∃ x, x = wr := ⟨wr, rfl⟩
        have hjI : (ts.length : Int) ≤ (j : Int) := by omega
        have HALL : Hid (colsOf cols.data.toList = some l) := hide (hcols.out.all (by omega) (by omega))
        have hl4 : l.length ≤ 4 := by have := HLL.out; omega
        clear hcols HP HTX
        go_wp2_with fail
        go_loopg [12, 13] (l.length + 1) (fun p tw ix w1 => ∃ (m : Nat) (t : Bool), m ≤ l.length ∧ ix = .int .i64 (m : Int) ∧ tw = .bool t ∧ Hid (t = false → NoTw l m) ∧ Hid (t = true → twins l = true) ∧ Below wE.heap.size wE w1 ∧ l.length - m < p)
        case atStart => exact ⟨0, false, Nat.zero_le _, rfl, rfl, hide (fun _ a b hab hb _ => by omega), hide (fun h => by cases h), Below.refl _ _, by omega⟩
        case round =>
          obtain ⟨m, t, hm, rfl, rfl, hno, hyes, hb1, hp⟩ := hrel
          have HP := hide hp
          clear hp
          by_cases hmlt : m < l.length
          · obtain ⟨wO, rfl⟩ : ∃ x, x = wr := ⟨wr, rfl⟩
            have hmI : (m : Int) < (l.length : Int) := by omega
            have hwm : IntKind.i64.wrap ((m : Int) + 1) = (m : Int) + 1 := by rw [IntKind.wrap_i64]; omega
            rcases hown.2 with ⟨e', h0⟩ | ⟨gl, cap', cur, e', hgl, hgb, -⟩
            · omega
            obtain ⟨rfl, rfl⟩ : la = some ⟨gl, 0, none⟩ ∧ lcap = cap' := by
              injection e' with e1 e2 e3
              exact ⟨e1, e3⟩
            have hglt : gl < wE.heap.size := (Array.getElem?_eq_some_iff.1 hgb).1
            have zO := hb1.size
            have cm : wO.cell? ⟨gl, m * 2, none⟩ = some (.string l[m].1) := cell_below hb1 (rowCell (rowLow (Nat.zero_le _) hown) (rcolCells_at l m hmlt).1) hglt
            have HCK : Hid (∀ k (hk : k < l.length), wO.cell? ⟨gl, k * 2, none⟩ = some (.string l[k].1)) := hide (fun k hk => cell_below hb1 (rowCell (rowLow (Nat.zero_le _) hown) (rcolCells_at l k hk).1) hglt)
            clear e' hgb
            go_wp2_with fail
            go_loopg [12, 14] (m + 1) (fun p tw ix w2 => ∃ (k : Nat) (t : Bool), k ≤ m ∧ ix = .int .i64 (k : Int) ∧ tw = .bool t ∧ Hid (t = false → NoTw l m ∧ NoTwAt l m k hmlt) ∧ Hid (t = true → twins l = true) ∧ Below wO.heap.size wO w2 ∧ m - k < p)
            case atStart => exact ⟨0, t, Nat.zero_le _, rfl, rfl, hide (fun h => ⟨hno.out h, fun a ha _ => absurd ha (Nat.not_lt_zero _)⟩), hyes, Below.refl _ _, by omega⟩
            case round =>
              obtain ⟨k, t2, hk, rfl, rfl, hno2, hyes2, hb2, hp2⟩ := hrel
              have HP2 := hide hp2
              clear hp2
              by_cases hkm : k < m
              · have hkI : (k : Int) < (m : Int) := by omega
                have hkl : k < l.length := by omega
                have hkL : (k : Int) < (l.length : Int) := by omega
                have hwk : IntKind.i64.wrap ((k : Int) + 1) = (k : Int) + 1 := by rw [IntKind.wrap_i64]; omega
                cases t2
                · have x1 := cell_below hb2 cm (Nat.lt_of_lt_of_le hglt zO)
                  have x2 := cell_below hb2 (HCK.out k hkl) (Nat.lt_of_lt_of_le hglt zO)
                  by_cases he : l[m].1 = l[k].1
                  · have HTW := hide (twins_true l k m hkm hmlt he)
                    rw [he] at x1
                    clear hno2 hyes2 he cm
                    go_upto_region 23 with fail
                    go_quiet (fail)
                    go_wp2_with fail
                    have hp2 := HP2.out
                    go_roundg (m - k)
                    case measure => omega
                    case rel => exact ⟨k + 1, true, by omega, by go_num, rfl, hide (fun h => by cases h), hide (fun _ => HTW.out), hb2.trans ⟨rfl, rfl, rfl, Nat.le_refl _, fun _ _ => rfl⟩, by omega⟩
                  · have HNT : Hid (NoTw l m ∧ NoTwAt l m (k + 1) hmlt) := hide ⟨(hno2.out rfl).1, fun a ha hl => by
                      by_cases e : a = k
                      · subst e; exact he
                      · exact (hno2.out rfl).2 a (by omega) hl⟩
                    have hne := tolNe he
                    clear hno2 hyes2 he cm
                    go_upto_region 23 with fail
                    go_quiet (fail)
                    go_wp2_with fail
                    have hp2 := HP2.out
                    go_roundg (m - k)
                    case measure => omega
                    case rel => exact ⟨k + 1, false, by omega, by go_num, rfl, hide (fun _ => HNT.out), hide (fun h => by cases h), hb2.trans ⟨rfl, rfl, rfl, Nat.le_refl _, fun _ _ => rfl⟩, by omega⟩
                · have HTW := hide (hyes2.out rfl)
                  clear hno2 hyes2
                  go_upto_region 23 with fail
                  go_quiet (fail)
                  go_wp2_with fail
                  have hp2 := HP2.out
                  go_roundg (m - k)
                  case measure => omega
                  case rel => exact ⟨k + 1, true, by omega, by go_num, rfl, hide (fun h => by cases h), hide (fun _ => HTW.out), hb2.trans ⟨rfl, rfl, rfl, Nat.le_refl _, fun _ _ => rfl⟩, by omega⟩
              · have hkI : (m : Int) ≤ (k : Int) := by omega
                have hke : k = m := by omega
                have HN : Hid (t2 = false → NoTw l (m + 1)) := hide (fun h => (hno2.out h).1.next hmlt (hke ▸ (hno2.out h).2))
                clear hno2 hke
                go_wp2_with fail
                have hp := HP.out
                go_roundg (l.length - m)
                case measure => omega
                case rel => exact ⟨m + 1, t2, by omega, by go_num, rfl, HN, hyes2, hb1.trans (hb2.mono zO), by omega⟩
          · obtain ⟨wF, rfl⟩ : ∃ x, x = wr := ⟨wr, rfl⟩
            have hmI : (l.length : Int) ≤ (m : Int) := by omega
            have hme : m = l.length := by omega
            have HTW : Hid (twins l = t) := hide (by
              cases t
              · exact twins_false l (hme ▸ hno.out rfl)
              · exact hyes.out rfl)
            have hbF := hbw.trans (hb1.mono (Nat.le_trans zS zr))
            have hownF := rowBel hown hb1
            have zF := hbF.size
            have H3 : Hid ((found || name == logB || name == touchB || t) = true → ∀ w', Below w.heap.size w w' → R (.returned (.int .i64 3)) w') := hide (fun h w' hb' => by rw [← HR.out]; exact RCreR.three HNN.out HALL.out (by rw [HTW.out]; exact h) hb')
            have H7 : Hid ((found || name == logB || name == touchB || t) = false → 6 ≤ bs.length → ∀ w', Below w.heap.size w w' → R (.returned (.int .i64 7)) w') := hide (fun h h6 w' hb' => by rw [← HR.out]; exact RCreR.seven HNN.out HALL.out (by rw [HTW.out]; exact h) h6 hb')
            have H0 : Hid ((found || name == logB || name == touchB || t) = false → ¬ 6 ≤ bs.length → ∀ w', RCreOk w b tv nv lv gv ck bs ns name l w' → R (.returned (.int .i64 0)) w') := hide (fun h h6 w' hb' => by rw [← HR.out]; exact RCreR.nought HNN.out HALL.out (by rw [HTW.out]; exact h) h6 hb')
            have g1 : (name.toList == [108, 111, 103]) = (name == logB) := beq_lit _ _
            have g2 : (name.toList == [116, 111, 117, 99, 104]) = (name == touchB) := beq_lit _ _
            have HFF := hide (HF.out wF hbF)
            have hB := (hbF.block b hlb).trans HB.out
            have hTR := rowBel htr hbF
            have hNR := rowBel hnr hbF
            clear hno hyes hme HP HR HNN HALL HTW hb1 hown HF
            generalize (name == logB) = x at *
            generalize (name == touchB) = y at *
            cases found
            · have hfi0 : fi < 0 := by have := of_decide_eq_false HFI.out; omega
              cases x
              · cases y
                · cases t
                  · have c0 : wF.cell? ⟨b, 0, none⟩ = some tv := blkCell hB (i := 0) rfl
                    obtain ⟨ta, tcap, rfl⟩ := rowShape hTR
                    by_cases h6 : 6 ≤ bs.length
                    · have h6I : (6 : Int) ≤ (bs.length : Int) := by omega
                      have HE := hide (H7.out rfl h6 wF hbF)
                      clear H3 H7 H0 h6
                      go_wp2_with (go_at_call 167; refine HFF.out.mono ?_; rintro e w3 ⟨rfl, rfl⟩)
                      exact HE.out
                    · have h6I : (bs.length : Int) < 6 := by omega
                      obtain ⟨na, ncap, rfl⟩ := rowShape hNR
                      obtain ⟨i2, hi2, hp0, hp1, hp2⟩ := info_parts infoRPtr
                      obtain ⟨i3, hi3, hq0, hq1, hq2⟩ := info_parts infoInt
                      have HE := hide (fun w' h => H0.out rfl h6 w' h)
                      clear H3 H7 H0 h6
                      have hltF : b < wF.heap.size := Nat.lt_of_lt_of_le hlb zF
                      have hapT : (Value.slice ta bs.length tcap).ownBlock ≠ some b := rowApart hTR hB (by decide)
                      have hapN : (Value.slice na bs.length ncap).ownBlock ≠ some b := rowApart hNR hB (by decide)
                      have HTL : Hid (∀ q, (Value.slice ta bs.length tcap).ownBlock = some q → q < w.heap.size) := hide (fun q hq => (htr.lt q hq).2)
                      have HNL : Hid (∀ q, (Value.slice na bs.length ncap).ownBlock = some q → q < w.heap.size) := hide (fun q hq => (hnr.lt q hq).2)
                      go_upto_region 30 with (first | (go_at_call 167; refine HFF.out.mono ?_; rintro e w3 ⟨rfl, rfl⟩) | (at_builtin; refine wpList_append_lies _ rfl _ _ 87 rfl 0 287 i2 (.pointer none) 1 8 Tryz.underlying87 hi2 hp0 hp1 hp2 rfl (by decide) _ _ _ rfl ((hTR.alloc _).alloc _) ⟨wF.heap.size + 1, 0, none⟩ 1 1 [.pointer (some ⟨wF.heap.size, 0, none⟩)] rfl rfl (one_new2 _ _ _ _) (by simp [Value.oneCell']) (by decide) (by unfold maxLen; omega) (by omega) (Nat.zero_le _) (wF.heap.size + 2) (by simp) ?_; intro g5 cap5 w5 hown5 hgrow5 hat5 hlt5; have hB5 := (hgrow5.block b (by simp; omega) (fun e => hapT e.symm)).trans ((Below.heap_alloc _ _ b (by simp; omega)).trans ((Below.heap_alloc _ _ b hltF).trans hB)); have x0 := blkCell hB5 (i := 0) rfl; have xf0 := blkFree (i := 0) hB5))
                      have hW : Blk (fun _ => True) w5 b #[.slice ta bs.length tcap, .slice na bs.length ncap, lv, gv, ck] 91 := ⟨trivial, hB5⟩
                      have hBW := (hW.set 0 (.slice (some ⟨g5, 0, none⟩) (bs.length + 1) cap5)).2
                      have hap5 := rowApart hown5 hB5 (by decide)
                      have hRW := ownsRow_setCell_other hown5 (a := ⟨b, 0, none⟩) hap5 (.slice (some ⟨g5, 0, none⟩) (bs.length + 1) cap5)
                      have hC5 := ((rowLow zS hownF).alloc (.cells #[.string name, .slice la l.length lcap, .slice none 0 0] 292)).alloc (.cells #[.pointer (some ⟨wF.heap.size, 0, none⟩)] 287) |>.kept hgrow5 (row_ne hownF hTR (by decide))
                      have hCW := ownsRow_setCell_other hC5 (a := ⟨b, 0, none⟩) (rowApart hC5 hB5 (by decide)) (.slice (some ⟨g5, 0, none⟩) (bs.length + 1) cap5)
                      have hN5 := ((hNR.alloc (.cells #[.string name, .slice la l.length lcap, .slice none 0 0] 292)).alloc (.cells #[.pointer (some ⟨wF.heap.size, 0, none⟩)] 287)).kept hgrow5 (row_ne hNR hTR (by decide))
                      have hNW := ownsRow_setCell_other hN5 (a := ⟨b, 0, none⟩) (rowApart hN5 hB5 (by decide)) (.slice (some ⟨g5, 0, none⟩) (bs.length + 1) cap5)
                      have hK5 : w5.heap[wF.heap.size]? = some (.cells #[.string name, .slice la l.length lcap, .slice none 0 0] 292 (0, 0)) := (hgrow5.block wF.heap.size (by rw [alloc_size, alloc_size]; omega) (fun e => by have := HTL.out _ e.symm; omega)).trans ((Below.heap_alloc _ _ _ (by rw [alloc_size]; omega)).trans (heap_alloc_new wF _))
                      have hKW : (w5.setCell ⟨b, 0, none⟩ (.slice (some ⟨g5, 0, none⟩) (bs.length + 1) cap5)).heap[wF.heap.size]? = some (.cells #[.string name, .slice la l.length lcap, .slice none 0 0] 292 (0, 0)) := (Below.heap_setCell _ _ _ _ (by show wF.heap.size ≠ b; omega)).trans hK5
                      have hSW : Stp (fun q => q = b ∨ (Value.slice ta bs.length tcap).ownBlock = some q ∨ (Value.slice na bs.length ncap).ownBlock = some q) w (w5.setCell ⟨b, 0, none⟩ (.slice (some ⟨g5, 0, none⟩) (bs.length + 1) cap5)) := ((Stp.of ((hbF.alloc zF _).alloc (by simp; omega) _)).andThen (Stp.grown hgrow5 (fun q e => .inr (.inl e)))).andThen (Stp.set b 0 _ (.inl rfl))
                      have HAT : Hid ((Value.slice ta bs.length tcap).ownBlock = some g5 ∨ w.heap.size ≤ g5) := hide (hat5.imp id (fun e => by omega))
                      clear hW hB5 x0 xf0 hap5 hown5 hC5 hN5 hK5 hgrow5 hat5 hlt5
                      generalize w5.setCell ⟨b, 0, none⟩ (.slice (some ⟨g5, 0, none⟩) (bs.length + 1) cap5) = W at *
                      have zW := hSW.size
                      have HK := hide hKW
                      have HSW := hide hSW
                      have HBW := hide hBW
                      have hltW : b < W.heap.size := Nat.lt_of_lt_of_le hlb zW
                      have d1 : W.cell? ⟨b, 1, none⟩ = some (.slice na bs.length ncap) := blkCell hBW (i := 1) rfl
                      have hkltW : wF.heap.size < W.heap.size := (Array.getElem?_eq_some_iff.1 hKW).1
                      clear hKW hSW hBW c0 hTR hNR hownF
                      go_wp2_with (at_builtin; refine wpList_append_lies _ rfl _ _ 38 rfl 0 3 i3 (.int .i64 0) 1 8 Tryz.underlying38 hi3 hq0 hq1 hq2 rfl (by decide) _ _ _ rfl (hNW.alloc _) ⟨W.heap.size, 0, none⟩ 1 1 [.int .i64 1] rfl rfl (one_new _ _ _) (by simp [Value.oneCell']) (by decide) (by unfold maxLen; omega) (by omega) (Nat.zero_le _) (W.heap.size + 1) (by simp) ?_; intro g6 cap6 w6 hown6 hgrow6 hat6 hlt6; have hB6 := (hgrow6.block b (by simp; omega) (fun e => hapN e.symm)).trans ((Below.heap_alloc _ _ b hltW).trans HBW.out); have y1 := blkCell hB6 (i := 1) rfl; have yf1 := blkFree (i := 1) hB6)
                      refine HE.out _ ⟨.slice la l.length lcap, wF.heap.size, .slice (some ⟨g5, 0, none⟩) (bs.length + 1) cap5, .slice (some ⟨g6, 0, none⟩) (bs.length + 1) cap6, ?_, zF, ?_, ?_, ?_, ?_, ?_, ?_, ?_⟩
                      · have h := (hCW.alloc (.cells #[.int .i64 1] 3)).kept hgrow6 (row_ne hCW hNW (by decide))
                        exact ownsRow_setCell_other h (rowApart h hB6 (by decide)) _
                      · refine (Below.heap_setCell _ _ _ _ (by show wF.heap.size ≠ b; omega)).trans ((hgrow6.block wF.heap.size (by simp; omega) (fun e => by have := HNL.out _ e.symm; omega)).trans ((Below.heap_alloc _ _ _ hkltW).trans HK.out))
                      · exact (Blk.set (F := fun _ => True) ⟨trivial, hB6⟩ 1 _).2
                      · have h := (hRW.alloc (.cells #[.int .i64 1] 3)).kept hgrow6 (row_ne hRW hNW (by decide))
                        exact ownsRow_setCell_other h (rowApart h hB6 (by decide)) _
                      · exact ownsRow_setCell_other hown6 (rowApart hown6 hB6 (by decide)) _
                      · intro q hq
                        obtain rfl : g5 = q := by simpa [Value.ownBlock] using hq
                        exact HAT.out
                      · intro q hq
                        obtain rfl : g6 = q := by simpa [Value.ownBlock] using hq
                        exact hat6.imp id (fun e => by omega)
                      · exact ((HSW.out.andThen (Stp.of ((Below.refl _ _).alloc (Nat.le_refl _) _))).andThen (Stp.grown hgrow6 (fun q e => .inr (.inr e)))).andThen (Stp.set b 1 _ (.inl rfl))
                  · have HE := hide (H3.out rfl wF hbF)
                    clear H3 H7 H0
                    go_wp2_with (go_at_call 167; refine HFF.out.mono ?_; rintro e w3 ⟨rfl, rfl⟩)
                    exact HE.out
                · have HE := hide (H3.out rfl wF hbF)
                  clear H3 H7 H0
                  go_wp2_with (go_at_call 167; refine HFF.out.mono ?_; rintro e w3 ⟨rfl, rfl⟩)
                  exact HE.out
              · have HE := hide (H3.out rfl wF hbF)
                clear H3 H7 H0
                go_wp2_with (go_at_call 167; refine HFF.out.mono ?_; rintro e w3 ⟨rfl, rfl⟩)
                exact HE.out
            · have hfi0 : 0 ≤ fi := of_decide_eq_true HFI.out
              have HE := hide (H3.out rfl wF hbF)
              clear H3 H7 H0
              go_wp2_with (go_at_call 167; refine HFF.out.mono ?_; rintro e w3 ⟨rfl, rfl⟩)
              exact HE.out
end
end Go.Proofs.YtbkeflgafjnefaaGreatDoor
namespace Go.Proofs.YtbkeflgafjnefaaGreatDoor
open Trib
theorem TbOk.mono {N M : Nat} (h : N ≤ M) {t : Tb} (ok : TbOk N t) : TbOk M t := ⟨ok.c1, ok.c4, ok.r20, Nat.le_trans ok.last h, ok.ck⟩
theorem EngOk.mono {N M : Nat} (h : N ≤ M) {g : Eng} (ok : EngOk N g) : EngOk M g := ⟨ok.six, fun t ht => (ok.tabs t ht).mono h, ok.clock0, ok.clock1⟩
theorem EngOk.zero (N : Nat) : EngOk N eng0 := ⟨Nat.zero_le _, fun t ht => absurd ht (List.not_mem_nil), Int.le_refl _, by show (0 : Int) ≤ 1000000000000; omega⟩
theorem colOf_kind {p : List UInt8} {c : ByteArray × Nat} (h : colOf p = some c) : c.2 = 1 ∨ c.2 = 2 := by
  unfold colOf at h
  split at h
  · split at h
    · obtain rfl := Option.some.inj h; exact .inl rfl
    · split at h
      · obtain rfl := Option.some.inj h; exact .inr rfl
      · cases h
  · cases h
theorem allOf_mem {α β : Type} (g : α → Option β) : ∀ (a : List α) (l : List β), allOf g a = some l → ∀ y ∈ l, ∃ x ∈ a, g x = some y
  | [], l, h, y, hy => by obtain rfl := Option.some.inj h; cases hy
  | x :: r, l, h, y, hy => by
    rw [allOf] at h
    obtain ⟨u, hu, h⟩ := Option.bind_eq_some_iff.1 h
    obtain ⟨z, hz, h⟩ := Option.bind_eq_some_iff.1 h
    obtain rfl := Option.some.inj h
    rcases List.mem_cons.1 hy with rfl | hy
    · exact ⟨x, List.mem_cons_self, hu⟩
    · obtain ⟨x', hx', e⟩ := allOf_mem g r z hz y hy
      exact ⟨x', List.mem_cons_of_mem _ hx', e⟩
theorem colsOf_kind {s : List UInt8} {l : List (ByteArray × Nat)} (h : colsOf s = some l) : ∀ c ∈ l, c.2 = 1 ∨ c.2 = 2 := by
  unfold colsOf at h
  split at h
  · cases h
  · intro c hc
    obtain ⟨x, _, e⟩ := allOf_mem _ _ _ h c hc
    exact colOf_kind e
theorem EngOk.create {N : Nat} {g : Eng} (ok : EngOk N g) (name cols : ByteArray) : EngOk N (createE g name cols).2 := by
  cases hc : colsOf cols.data.toList with
  | none => rw [createE_text (.inr hc)]; exact ok
  | some l =>
    cases hn : nameB name.data.toList with
    | false => rw [createE_text (.inl hn)]; exact ok
    | true =>
      cases h3 : ((findT g.tables name).isSome || name == logB || name == touchB || twins l) with
      | true => rw [createE_name hn hc h3]; exact ok
      | false =>
        by_cases h6 : 6 ≤ g.tables.length
        · rw [createE_full hn hc h3 h6]; exact ok
        · rw [createE_new hn hc h3 h6]
          have hl := colsOf_len hc
          refine ⟨?_, ?_, ok.clock0, ok.clock1⟩
          · show (g.tables ++ [_]).length ≤ 6
            rw [List.length_append]; simp; omega
          · intro t ht
            rcases List.mem_append.1 (show t ∈ g.tables ++ [_] from ht) with ht | ht
            · exact ok.tabs t ht
            · obtain rfl := List.mem_singleton.1 ht
              exact ⟨hl.1, hl.2, Nat.zero_le _, Nat.zero_le _, colsOf_kind hc⟩
theorem mem_set {α : Type} {l : List α} {i : Nat} {a x : α} (h : x ∈ l.set i a) : x ∈ l ∨ x = a := (List.mem_or_eq_of_mem_set h)
theorem TbOk.insert {N : Nat} {t : Tb} (ok : TbOk N t) (vals : List ByteArray) : TbOk (N + 1) (insertT t vals).2.2 := by
  have ok' := ok.mono (Nat.le_succ N)
  unfold insertT
  split
  · split
    · exact ok'
    · split
      · split
        · exact ok'
        · rename_i h20
          refine ⟨ok.c1, ok.c4, ?_, Nat.succ_le_succ ok.last, ok.ck⟩
          show (t.rows ++ [_]).length ≤ 20
          rw [List.length_append]; simp; omega
      · exact ok'
  · exact ok'
theorem EngOk.insert {N : Nat} {g : Eng} (ok : EngOk N g) (name : ByteArray) (vals : List ByteArray) : EngOk (N + 1) (insertE g name vals).2.2 := by
  cases hf : findT g.tables name with
  | none => rw [insertE_none hf]; exact ok.mono (Nat.le_succ N)
  | some i =>
    have hi := findT_lt hf
    rw [insertE_at hf hi]
    refine ⟨by show (g.tables.set i _).length ≤ 6; rw [List.length_set]; exact ok.six, fun t ht => ?_, ok.clock0, ok.clock1⟩
    rcases mem_set (show t ∈ g.tables.set i _ from ht) with ht | rfl
    · exact (ok.tabs t ht).mono (Nat.le_succ N)
    · exact (ok.tabs _ (List.getElem_mem hi)).insert vals
theorem TbOk.delete {N : Nat} {t : Tb} (ok : TbOk N t) (m : Int) : TbOk N (deleteT t m).2 := by
  unfold deleteT
  split
  · exact ok
  · refine ⟨ok.c1, ok.c4, ?_, ok.last, ok.ck⟩
    show (t.rows.eraseIdx _).length ≤ 20
    have := ok.r20
    rw [List.length_eraseIdx]
    split <;> omega
theorem EngOk.delete {N : Nat} {g : Eng} (ok : EngOk N g) (name : ByteArray) (m : Int) : EngOk N (deleteE g name m).2 := by
  cases hf : findT g.tables name with
  | none => rw [deleteE_none hf]; exact ok
  | some i =>
    have hi := findT_lt hf
    rw [deleteE_at hf hi]
    refine ⟨by show (g.tables.set i _).length ≤ 6; rw [List.length_set]; exact ok.six, fun t ht => ?_, ok.clock0, ok.clock1⟩
    rcases mem_set (show t ∈ g.tables.set i _ from ht) with ht | rfl
    · exact ok.tabs t ht
    · exact (ok.tabs _ (List.getElem_mem hi)).delete m
theorem EngOk.tick {N : Nat} {g : Eng} (ok : EngOk N g) (t : Int) : EngOk N (tickE g t).2 := by
  by_cases h : g.clock < t ∧ t ≤ 1000000000000
  · rw [tickE_yes h]
    exact ⟨ok.six, ok.tabs, by show 0 ≤ t; have := ok.clock0; omega, h.2⟩
  · rw [tickE_no h]; exact ok
end Go.Proofs.YtbkeflgafjnefaaGreatDoor
