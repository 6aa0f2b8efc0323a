/- Towards the law of tables: G3, G4, G5, G6. -/
import Derived.Test.YtbkeflgafjnefaaGreatDoorM14
import Derived.Test.YtbkeflgafjnefaaGreatDoorM06
import Derived.Test.YtbkeflgafjnefaaGreatDoorM21
namespace Go.Proofs.YtbkeflgafjnefaaGreatDoor
open Go.RowKit
open Trib
def colCells (l : List (ByteArray × Nat)) : List Value := l.flatMap fun c => [.string c.1, .int .i64 (c.2 : Int)]
theorem colCells_snoc (l : List (ByteArray × Nat)) (c : ByteArray × Nat) : colCells (l ++ [c]) = colCells l ++ [.string c.1, .int .i64 (c.2 : Int)] := by simp [colCells]
theorem pieces_small (sep : ByteArray) : ∀ (k : Nat) (s p : ByteArray), p ∈ Lib.splitB sep 0 k s → p.size ≤ s.size := by
  intro k
  induction k with
  | zero => intro s p h; obtain rfl := List.mem_singleton.1 h; exact Nat.le_refl _
  | succ k ih =>
    intro s p h
    unfold Lib.splitB at h
    split at h
    · obtain rfl := List.mem_singleton.1 h; exact Nat.le_refl _
    · rcases List.mem_cons.1 h with rfl | h
      · rw [ByteArray.size_extract]; omega
      · have := ih _ _ h
        rw [ByteArray.size_extract] at this; omega
theorem pieces_cell (ps : List ByteArray) (N : Nat) (w : World) (j : Nat) (hj : j < ps.length) : (w.alloc (.cells (Lib.cellsOf ps N) 9)).cell? ⟨w.heap.size, j, none⟩ = some (.string ps[j]) := by
  have h := heap_alloc_new w (.cells (Lib.cellsOf ps N) 9)
  have hc : (Lib.cellsOf ps N)[j]? = some (.string ps[j]) := by
    unfold Lib.cellsOf
    rw [List.getElem?_toArray, List.getElem?_append_left (by simpa using hj), List.getElem?_map, List.getElem?_eq_getElem hj]; rfl
  exact blk_cell h hc
theorem infoCol : (Tryz.prog.info? 228).map (fun i => (i.zero, i.size, i.bytes)) = some (some (.agg #[.string ⟨#[]⟩, .int .i64 0]), 2, 24) := by kernel_rfl
/-- What ReadColumns answers. -/
def ColsPost (s : ByteArray) (w : World) (e : Ending) (w' : World) : Prop :=
  (match colsOf s.data.toList with
   | none => e = .returned (.tuple #[.slice none 0 0, .bool false])
   | some l => ∃ v, e = .returned (.tuple #[v, .bool true]) ∧ w'.ownsRow w.heap.size 228 2 v l.length (colCells l)) ∧ Below w.heap.size w w'
theorem cols_pieces (s : ByteArray) : colsOf s.data.toList = if 4 < (Lib.splitB ⟨#[44]⟩ 0 (min 5 (s.size + 1) - 1) s).length then none else allOf colC ((Lib.splitB ⟨#[44]⟩ 0 (min 5 (s.size + 1) - 1) s).map (·.data.toList)) := by
  have e := Lib.splitB_data ⟨#[44]⟩ 0 (min 5 (s.size + 1) - 1) s
  have el := congrArg List.length e
  rw [List.length_map] at el
  obtain ⟨h1, h2⟩ := split_upTo 44 4 s.data.toList
  rw [show s.data.toList.length = s.size from by rw [Array.length_toList]; rfl] at h1 h2
  have e44 : (⟨#[44]⟩ : ByteArray).data.toList = [44] := rfl
  rw [e44] at e el
  unfold colsOf
  by_cases h : 4 < (splitB 44 s.data.toList).length
  · rw [if_pos h, if_pos (by rw [el]; exact h1.2 h)]
  · rw [if_neg h, if_neg (by rw [el]; exact fun h' => h (h1.1 h')), e, h2 h]
    have : colOf = colC := funext fun p => (colC_eq p).symm
    rw [this]
set_option maxHeartbeats 8000000 in
set_option maxRecDepth 100000 in
theorem readColumns_any (s : ByteArray) (w : World) (hg : Glob w) (hs : s.size ≤ 2000000) : Calls Tryz.prog 68 #[.string s] w (ColsPost s w) := by
  obtain ⟨i0, hi, hz0, hz1, hz2⟩ := info_parts infoCol
  have hbig := hg.big
  obtain ⟨m, hm⟩ := hg.maxLen
  have hsp := Tryz.strings_SplitN s ⟨#[44]⟩ 5 m w (by omega) hm (by decide) (by decide) (by decide)
  have HCP := hide (cols_pieces s)
  have hpl := Lib.splitB_length_le ⟨#[44]⟩ 0 (min 5 (s.size + 1) - 1) s
  have hps := fun p hp => Nat.le_trans (pieces_small ⟨#[44]⟩ (min 5 (s.size + 1) - 1) s p hp) hs
  generalize Lib.splitB ⟨#[44]⟩ 0 (min 5 (s.size + 1) - 1) s = ps at *
  generalize min 5 (s.size + 1) = N at *
  have HSP := hide hsp
  have HPS := hide hps
  have hba : Below (w.heap.size + 1) (w.alloc (.cells (Lib.cellsOf ps N) 9)) (w.alloc (.cells (Lib.cellsOf ps N) 9)) := Below.refl _ _
  have hbw : Below w.heap.size w (w.alloc (.cells (Lib.cellsOf ps N) 9)) := (Below.refl _ _).alloc (Nat.le_refl _) _
  have HPC := hide (pieces_cell ps N w)
  have hnew := heap_alloc_new w (.cells (Lib.cellsOf ps N) 9)
  have z0 : (w.alloc (.cells (Lib.cellsOf ps N) 9)).heap.size = w.heap.size + 1 := by simp
  clear hsp hps hm
  go_enter Tryz.func68, Tryz.ntmps68
  go_upto_region 2 with (go_at_call 119; refine HSP.out.mono ?_; rintro e w' ⟨rfl, rfl⟩)
  generalize w.alloc (.cells (Lib.cellsOf ps N) 9) = W at *
  by_cases h4 : 4 < ps.length
  · have h4' : (4 : Int) < (ps.length : Int) := by omega
    go_wp2_with fail
    go_ret2
    refine ⟨?_, hbw⟩
    rw [HCP.out, if_pos h4]
    rfl
  · have h4' : (ps.length : Int) ≤ 4 := by omega
    have HC2 : Hid (colsOf s.data.toList = allOf colC (ps.map (·.data.toList))) := hide (HCP.out.trans (if_neg h4))
    go_wp2_with fail
    go_loopg [5, 17] (ps.length + 1) (fun q cv i wr => ∃ (j : Nat) (l : List (ByteArray × Nat)), j ≤ ps.length ∧ l.length = j ∧ i = .int .i64 (j : Int) ∧ Hid (allOf colC ((ps.take j).map (·.data.toList)) = some l) ∧ wr.ownsRow (w.heap.size + 1) 228 2 cv l.length (colCells l) ∧ Below (w.heap.size + 1) W wr ∧ ps.length - j < q)
    case atStart => exact ⟨0, [], Nat.zero_le _, rfl, rfl, hide rfl, ⟨rfl, .inl ⟨rfl, rfl⟩⟩, hba, by omega⟩
    case round =>
      obtain ⟨j, l, hj, hlj, rfl, hal, hrow, hb, hq⟩ := hrel
      have HLJ := hide hlj
      have hl4 : l.length ≤ 4 := by omega
      clear hlj
      have hbW : Below w.heap.size w wr := hbw.trans (hb.mono (by omega))
      have hG := hg.below hbW hbig
      by_cases hlt : j < ps.length
      · have hlt' : (j : Int) < (ps.length : Int) := by omega
        have hpc : wr.cell? ⟨w.heap.size, j, none⟩ = some (.string ps[j]) := (World.cell?_of_block (hb.block w.heap.size (by omega))).trans (HPC.out j hlt)
        have hpsz := HPS.out _ (List.getElem_mem hlt)
        have hsn : allOf colC ((ps.take (j + 1)).map (·.data.toList)) = (colC ps[j].data.toList).bind fun y => some (l ++ [y]) := by
          rw [List.take_succ_eq_append_getElem hlt, List.map_append, List.map_cons, List.map_nil, allOf_snoc, hal.out]; rfl
        have hmem : ps[j].data.toList ∈ ps.map (·.data.toList) := List.mem_map_of_mem (List.getElem_mem hlt)
        have HMEM := hide hmem
        have HRC := hide (readColumn_any ps[j] wr hG hpsz)
        have HSN := hide hsn
        have HQ := hide hq
        have hwr : IntKind.i64.wrap ((j : Int) + 1) = (j : Int) + 1 := by rw [IntKind.wrap_i64]; omega
        have zr := hb.size
        clear hsn hmem hq hal hG
        generalize hpj : ps[j] = p at *
        have HPJ := hide hpj
        clear hpj
        obtain ⟨ca, ccap, rfl⟩ := row_shape hrow
        cases hcp : colC p.data.toList with
        | none =>
          rw [hcp] at HRC HSN
          have HNO := hide hcp
          clear hcp
          go_wp2_with (go_at_call 120; refine HRC.out.mono ?_; rintro e w2 ⟨rfl, hb2⟩; simp only [colV])
          go_ret2
          refine ⟨?_, (hbW.trans (hb2.mono hbW.size)).alloc (by have := hb2.size; omega) _⟩
          rw [HC2.out, allOf_none colC _ _ HMEM.out HNO.out]
          rfl
        | some c =>
          obtain ⟨cn, ck⟩ := c
          rw [hcp] at HRC HSN
          clear hcp
          go_upto_region 11 with (go_at_call 120; refine HRC.out.mono ?_; rintro e w2 ⟨rfl, hb2⟩; simp only [colV])
          have hloc := heap_alloc_new w2 (.cells #[.string cn, .int .i64 (ck : Int)] 228)
          have hb3 : Below wr.heap.size wr (w2.alloc (.cells #[.string cn, .int .i64 (ck : Int)] 228)) := hb2.alloc (by have := hb2.size; omega) _
          have hrow3 := row_below hrow hb3
          have z2 := hb2.size
          have Z3 : Hid ((w2.alloc (.cells #[.string cn, .int .i64 (ck : Int)] 228)).heap.size = w2.heap.size + 1) := hide (by simp)
          generalize w2.alloc (.cells #[.string cn, .int .i64 (ck : Int)] 228) = W3 at *
          have x0 : W3.cell? ⟨w2.heap.size, 0, none⟩ = some (.string cn) := blk_cell hloc (i := 0) rfl
          have x1 : W3.cell? ⟨w2.heap.size, 1, none⟩ = some (.int .i64 (ck : Int)) := blk_cell hloc (i := 1) rfl
          clear hpc hrow HRC
          go_wp2_with (at_builtin; refine wpList_append_own _ rfl _ _ 133 rfl (w.heap.size + 1) 228 i0 (.agg #[.string ⟨#[]⟩, .int .i64 0]) 2 24 Tryz.underlying133 hi hz0 hz1 hz2 rfl (by decide) _ _ _ rfl (hrow3.alloc _) ⟨W3.heap.size, 0, none⟩ 1 1 [.string cn, .int .i64 (ck : Int)] rfl rfl (World.news_of_block (cs := #[.string cn, .int .i64 (ck : Int)]) (heap_alloc_new W3 _)) (by simp [Value.oneCell']) (by unfold maxLen; omega) (by omega) (by rw [World.size_alloc, Z3.out]; omega) ?_)
          intro v' w5 hown5 hgrow5 _
          have hb5 : Below (w.heap.size + 1) W3 w5 := ((Below.refl _ W3).alloc (by rw [Z3.out]; omega) _).grown hgrow5 (by rw [World.size_alloc, Z3.out]; omega) (fun k hk => (hrow3.lt k hk).1)
          clear x0 x1
          go_wp2_with fail
          have hq := HQ.out
          go_roundg (gk - 1)
          case measure => omega
          case rel => exact ⟨j + 1, l ++ [(cn, ck)], by omega, by rw [List.length_append, HLJ.out]; rfl, by go_num, hide HSN.out, by rw [colCells_snoc, List.length_append]; exact hown5, (hb.trans (hb3.mono (by omega))).trans hb5, by omega⟩
      · have hlt' : (ps.length : Int) ≤ (j : Int) := by omega
        have hjl : j = ps.length := by omega
        have HAL : Hid (colsOf s.data.toList = some l) := hide (by rw [HC2.out, ← hal.out, hjl, List.take_length])
        clear hq hal
        obtain ⟨ca, ccap, rfl⟩ := row_shape hrow
        go_wp2_with fail
        go_ret2
        refine ⟨?_, hbW⟩
        rw [HAL.out]
        exact ⟨_, rfl, row_low (by omega) hrow⟩
end Go.Proofs.YtbkeflgafjnefaaGreatDoor
namespace Go.Proofs.YtbkeflgafjnefaaGreatDoor
open Go.RowKit
open Trib
theorem colCells_at (l : List (ByteArray × Nat)) (p : Nat) (h : p < l.length) : (colCells l)[p * 2]? = some (.string l[p].1) ∧ (colCells l)[p * 2 + 1]? = some (.int .i64 (l[p].2 : Int)) := by
  induction l generalizing p with
  | nil => exact absurd h (Nat.not_lt_zero _)
  | cons a r ih =>
    have e : colCells (a :: r) = [.string a.1, .int .i64 (a.2 : Int)] ++ colCells r := by simp [colCells]
    rw [e]
    cases p with
    | zero => exact ⟨rfl, rfl⟩
    | succ p =>
      have := ih p (by simpa using h)
      rw [List.getElem?_append_right (by simp; omega), List.getElem?_append_right (by simp; omega)]
      have e1 : (p + 1) * 2 - [Value.string a.1, Value.int IntKind.i64 (a.2 : Int)].length = p * 2 := by simp; omega
      have e2 : (p + 1) * 2 + 1 - [Value.string a.1, Value.int IntKind.i64 (a.2 : Int)].length = p * 2 + 1 := by simp; omega
      rw [e1, e2]; simpa using this
theorem col_cells {w : World} {base : Nat} {l : List (ByteArray × Nat)} {g cap : Nat} (h : w.ownsRow base 228 2 (.slice (some ⟨g, 0, none⟩) l.length cap) l.length (colCells l)) (p : Nat) (hp : p < l.length) :
    w.cell? ⟨g, p * 2, none⟩ = some (.string l[p].1) ∧ w.cell? ⟨g, p * 2 + 1, none⟩ = some (.int .i64 (l[p].2 : Int)) := by
  obtain ⟨h1, h2⟩ := colCells_at l p hp
  have e1 := h.cells rfl _ _ h1
  have e2 := h.cells rfl _ _ h2
  rw [Addr.add_lit, Nat.zero_add] at e1 e2
  exact ⟨e1, e2⟩
set_option maxHeartbeats 8000000 in
set_option maxRecDepth 100000 in
theorem hasTwins_any (v : Value) (l : List (ByteArray × Nat)) (base : Nat) (w : World) (hrow : w.ownsRow base 228 2 v l.length (colCells l)) (hl : l.length ≤ 1000) :
    Calls Tryz.prog 72 #[v] w fun e w' => e = .returned (.bool (twins l)) ∧ Below w.heap.size w w' := by
  rcases hrow.2 with ⟨rfl, h0⟩ | ⟨g, cap, cur, rfl, _, _, hcap, _⟩
  · obtain rfl : l = [] := List.eq_nil_of_length_eq_zero h0
    go_enter Tryz.func72, Tryz.ntmps72
    go_wp2_with fail
    refine wp_loop_rounds 1 ?_
    rw [rounds_succ]
    go_wp2_with fail
    go_ret
    exact ⟨rfl, Below.refl _ _⟩
  · go_enter Tryz.func72, Tryz.ntmps72
    go_wp2_with fail
    go_loopg [9] (l.length + 1) (fun q i wr => ∃ (j : Nat), j ≤ l.length ∧ i = .int .i64 (j : Int) ∧ NoTw l j ∧ Below w.heap.size w wr ∧ l.length - j < q)
    case atStart => exact ⟨0, Nat.zero_le _, rfl, (fun a b _ hb _ => absurd hb (Nat.not_lt_zero _)), Below.refl _ _, by omega⟩
    case round =>
      obtain ⟨j, hj, rfl, hn, hb, hq⟩ := hrel
      by_cases hlt : j < l.length
      · have hlt' : (j : Int) < (l.length : Int) := by omega
        have hjc : (j : Int) ≤ (cap : Int) := by omega
        obtain ⟨c1, c2⟩ := col_cells (row_below hrow hb) j hlt
        have hwr : IntKind.i64.wrap ((j : Int) + 1) = (j : Int) + 1 := by rw [IntKind.wrap_i64]; omega
        have HN := hide hn
        have HQ := hide hq
        clear hn hq
        go_wp2_with fail
        have hloc := heap_alloc_new wr (.cells #[.string l[j].1, .int .i64 (l[j].2 : Int)] 228)
        have hbW : Below w.heap.size w (wr.alloc (.cells #[.string l[j].1, .int .i64 (l[j].2 : Int)] 228)) := hb.alloc hb.size _
        generalize wr.alloc (.cells #[.string l[j].1, .int .i64 (l[j].2 : Int)] 228) = W at *
        have HT := hide (fun (i : Nat) (hij : i < j) (e : l[j].1 = (l[i]'(by omega)).1) => twins_true l i j hij hlt e)
        have HNX := hide (fun (h2 : NoTwAt l j j hlt) => HN.out.next hlt h2)
        have zr := hb.size
        generalize wr.heap.size = G at *
        clear c1 c2 hb
        go_loopg [18] (j + 1) (fun q i wi => ∃ (n : Nat), n ≤ j ∧ i = .int .i64 (n : Int) ∧ NoTwAt l j n hlt ∧ Below W.heap.size W wi ∧ j - n < q)
        case atStart => exact ⟨0, Nat.zero_le _, rfl, (fun a ha _ => absurd ha (Nat.not_lt_zero _)), Below.refl _ _, by omega⟩
        case round =>
          obtain ⟨i, hi, rfl, hna, hbi, hqi⟩ := hrel
          have hbwi : Below w.heap.size w wr := hbW.trans (hbi.mono hbW.size)
          by_cases hil : i < j
          · have hil' : (i : Int) < (j : Int) := by omega
            obtain ⟨c1, c2⟩ := col_cells (row_below hrow hbwi) i (by omega)
            have hl2 := (hbi.block G (Array.getElem?_eq_some_iff.1 hloc).1).trans hloc
            have d0 : wr.cell? ⟨G, 0, none⟩ = some (.string l[j].1) := blk_cell hl2 (i := 0) rfl
            have hwi : IntKind.i64.wrap ((i : Int) + 1) = (i : Int) + 1 := by rw [IntKind.wrap_i64]; omega
            have hGlt : G < wr.heap.size := (Array.getElem?_eq_some_iff.1 hl2).1
            have hd1 : (wr.alloc (.cells #[.string (l[i]'(by omega)).1, .int .i64 ((l[i]'(by omega)).2 : Int)] 228)).cell? ⟨G, 0, none⟩ = some (.string l[j].1) := (World.cell?_of_block (Below.heap_alloc wr _ G hGlt)).trans d0
            by_cases he : l[j].1 = (l[i]'(by omega)).1
            · have HTW := hide (HT.out i hil he)
              rw [he] at d0 hd1
              clear hna hqi
              go_wp2_with fail
              go_ret
              exact ⟨by rw [HTW.out]; rfl, hbwi.alloc hbwi.size _⟩
            · have HNA : Hid (NoTwAt l j (i + 1) hlt) := hide (fun a ha hl' => by
                by_cases e : a = i
                · subst e; exact he
                · exact hna a (by omega) hl')
              have hne : (l[j].1.toList == (l[i]'(by omega)).1.toList) = false := by
                rw [beq_eq_false_iff_ne, ByteArray.toList_eq, ByteArray.toList_eq]
                intro e
                apply he
                have := congrArg List.toArray e
                simp at this
                cases h1 : l[j].1 with
                | mk x => cases h2 : (l[i]'(by omega)).1 with
                  | mk y => rw [h1, h2] at this; simpa using this
              have HQI := hide hqi
              clear hna hqi he
              go_wp2_with fail
              have hqi := HQI.out
              go_roundg (j - i)
              case measure => omega
              case rel => exact ⟨i + 1, by omega, by go_num, HNA.out, hbi.alloc hbi.size _, by omega⟩
          · have hil' : (j : Int) ≤ (i : Int) := by omega
            have hij : i = j := by omega
            have HNN := hide (HNX.out (hij ▸ hna))
            clear hna hqi hij
            go_wp2_with fail
            have hq := HQ.out
            go_roundg (l.length - j)
            case measure => omega
            case rel => exact ⟨j + 1, by omega, by go_num, HNN.out, hbwi, by omega⟩
      · have hlt' : (l.length : Int) ≤ (j : Int) := by omega
        have hj' : j = l.length := by omega
        have HF := hide (twins_false l (hj' ▸ hn))
        clear hn hq hj'
        go_wp2_with fail
        go_ret
        exact ⟨by rw [HF.out]; rfl, hb⟩
end Go.Proofs.YtbkeflgafjnefaaGreatDoor
namespace Go.Proofs.YtbkeflgafjnefaaGreatDoor
open Go.RowKit
open Trib
def ptrs (bs : List Nat) : List Value := bs.map fun b => .pointer (some ⟨b, 0, none⟩)
def atB (bs : List Nat) : Option Nat → Value
  | none => .pointer none
  | some i => .pointer (some ⟨bs.getD i 0, 0, none⟩)
theorem toList_inj {a b : ByteArray} (h : a.toList = b.toList) : a = b := by
  rw [ByteArray.toList_eq, ByteArray.toList_eq] at h
  cases a with
  | mk x => cases b with
    | mk y => exact congrArg ByteArray.mk (Array.toList_inj.1 h)
set_option maxHeartbeats 8000000 in
theorem find_any (v : Value) (bs : List Nat) (ns : List ByteArray) (name : ByteArray) (base : Nat) (w : World) (hrow : w.ownsRow base 136 1 v bs.length (ptrs bs)) (hns : ns.length = bs.length) (hl : bs.length ≤ 1000)
    (hnm : ∀ i (h : i < bs.length) (h2 : i < ns.length), w.cell? ⟨bs[i], 0, none⟩ = some (.string ns[i])) :
    Calls Tryz.prog 70 #[v, .string name] w fun e w' => e = .returned (atB bs (firstB ns name)) ∧ w = w' := by
  rcases hrow.2 with ⟨rfl, h0⟩ | ⟨g, cap, cur, rfl, _, _, hcap, _⟩
  · obtain rfl : bs = [] := List.eq_nil_of_length_eq_zero h0
    obtain rfl : ns = [] := List.eq_nil_of_length_eq_zero hns
    go_enter Tryz.func70, Tryz.ntmps70
    go_wp2_with fail
    refine wp_loop_rounds 1 ?_
    rw [rounds_succ]
    go_wp2_with fail
    go_ret
    exact ⟨rfl, rfl⟩
  · have HNM := hide hnm
    have HNS := hide hns
    clear hnm hns
    go_enter Tryz.func70, Tryz.ntmps70
    go_wp2_with fail
    go_loopg [9] (bs.length + 1) (fun q i wr => ∃ (j : Nat), j ≤ bs.length ∧ i = .int .i64 (j : Int) ∧ NoneB ns name j ∧ w = wr ∧ bs.length - j < q)
    case atStart => exact ⟨0, Nat.zero_le _, rfl, (fun a ha _ => absurd ha (Nat.not_lt_zero _)), rfl, by omega⟩
    case round =>
      obtain ⟨j, hj, rfl, hn, rfl, hq⟩ := hrel
      by_cases hlt : j < bs.length
      · have hlt' : (j : Int) < (bs.length : Int) := by omega
        have hlt2 : j < ns.length := by have := HNS.out; omega
        have c1 : w.cell? ⟨g, j, none⟩ = some (.pointer (some ⟨bs[j], 0, none⟩)) := by
          have h1 : (ptrs bs)[j]? = some (.pointer (some ⟨bs[j], 0, none⟩)) := by
            unfold ptrs; rw [List.getElem?_map, List.getElem?_eq_getElem hlt]; rfl
          have := hrow.cells rfl j _ h1
          rwa [Addr.add_lit, Nat.zero_add] at this
        have c2 := HNM.out j hlt hlt2
        have hwr : IntKind.i64.wrap ((j : Int) + 1) = (j : Int) + 1 := by rw [IntKind.wrap_i64]; omega
        by_cases he : ns[j] = name
        · have HF := hide (first_some hn hlt2 he)
          have HD : Hid (bs.getD j 0 = bs[j]) := hide (by rw [List.getD, List.getElem?_eq_getElem hlt]; rfl)
          rw [he] at c2
          clear hn hq
          go_wp2_with fail
          go_ret
          exact ⟨by rw [HF.out, atB, HD.out]; rfl, rfl⟩
        · have HNN : Hid (NoneB ns name (j + 1)) := hide (fun a ha h => by
            by_cases e : a = j
            · subst e; exact he
            · exact hn a (by omega) h)
          have hne : (ns[j].toList == name.toList) = false := by
            rw [beq_eq_false_iff_ne]
            exact fun e => he (toList_inj e)
          have HQ := hide hq
          clear hn hq he
          go_wp2_with fail
          have hq := HQ.out
          go_roundg (bs.length - j)
          case measure => omega
          case rel => exact ⟨j + 1, by omega, by go_num, HNN.out, rfl, by omega⟩
      · have hlt' : (bs.length : Int) ≤ (j : Int) := by omega
        have hj' : j = ns.length := by have := HNS.out; omega
        have HF := hide (first_none (hj' ▸ hn))
        clear hn hq hj'
        go_wp2_with fail
        go_ret
        exact ⟨by rw [HF.out]; rfl, rfl⟩
end Go.Proofs.YtbkeflgafjnefaaGreatDoor
namespace Go.Proofs.YtbkeflgafjnefaaGreatDoor
open Go.RowKit
open Trib
def vlCells (l : List Vl) : List Value := l.flatMap fun v => [.int .i64 (v.kind : Int), .int .i64 v.num, .string (bytesL v.word)]
theorem vlCells_at (l : List Vl) (p : Nat) (h : p < l.length) : (vlCells l)[p * 3]? = some (.int .i64 (l[p].kind : Int)) ∧ (vlCells l)[p * 3 + 1]? = some (.int .i64 l[p].num) ∧ (vlCells l)[p * 3 + 2]? = some (.string (bytesL l[p].word)) := by
  induction l generalizing p with
  | nil => exact absurd h (Nat.not_lt_zero _)
  | cons a r ih =>
    have e : vlCells (a :: r) = [.int .i64 (a.kind : Int), .int .i64 a.num, .string (bytesL a.word)] ++ vlCells r := by simp [vlCells]
    rw [e]
    cases p with
    | zero => exact ⟨rfl, rfl, rfl⟩
    | succ p =>
      have := ih p (by simpa using h)
      rw [List.getElem?_append_right (by simp; omega), List.getElem?_append_right (by simp; omega), List.getElem?_append_right (by simp; omega)]
      have e0 : ([Value.int IntKind.i64 (a.kind : Int), Value.int IntKind.i64 a.num, Value.string (bytesL a.word)] : List Value).length = 3 := rfl
      have e1 : (p + 1) * 3 - 3 = p * 3 := by omega
      have e2 : (p + 1) * 3 + 1 - 3 = p * 3 + 1 := by omega
      have e3 : (p + 1) * 3 + 2 - 3 = p * 3 + 2 := by omega
      rw [e0, e1, e2, e3]; simpa using this
set_option maxHeartbeats 8000000 in
set_option maxRecDepth 100000 in
theorem isTyped_any (b g cap gc ccap : Nat) (l : List Vl) (cs : List (ByteArray × Nat)) (w : World) (hblt : b < w.heap.size) (hlen : l.length = cs.length) (hl : l.length ≤ 1000)
    (hc : w.cell? ⟨b, 1, none⟩ = some (.slice (some ⟨gc, 0, none⟩) cs.length ccap)) (hcr : w.ownsRow 0 228 2 (.slice (some ⟨gc, 0, none⟩) cs.length ccap) cs.length (colCells cs))
    (hrow : w.ownsRow 0 184 3 (.slice (some ⟨g, 0, none⟩) l.length cap) l.length (vlCells l)) :
    Calls Tryz.prog 124 #[.pointer (some ⟨b, 0, none⟩), .slice (some ⟨g, 0, none⟩) l.length cap] w fun e w' => e = .returned (.bool (typedE l cs)) ∧ Below w.heap.size w w' := by
  have HLEN := hide hlen
  clear hlen
  go_enter Tryz.func124, Tryz.ntmps124
  go_wp2_with fail
  go_loopg [9] (l.length + 1) (fun q i wr => ∃ (j : Nat), j ≤ l.length ∧ i = .int .i64 (j : Int) ∧ TypedTo l cs j ∧ Below w.heap.size w wr ∧ l.length - j < q)
  case atStart => exact ⟨0, Nat.zero_le _, rfl, (fun a ha _ _ => absurd ha (Nat.not_lt_zero _)), Below.refl _ _, by omega⟩
  case round =>
    obtain ⟨j, hj, rfl, hn, hb, hq⟩ := hrel
    by_cases hlt : j < l.length
    · have hlt' : (j : Int) < (l.length : Int) := by omega
      have hltc : j < cs.length := by have := HLEN.out; omega
      have hltc' : (j : Int) < (cs.length : Int) := by omega
      obtain ⟨r1, r2, r3⟩ := vlCells_at l j hlt
      have c1 := (row_below hrow hb).cells rfl _ _ r1
      have c2 := (row_below hrow hb).cells rfl _ _ r2
      have c3 := (row_below hrow hb).cells rfl _ _ r3
      rw [Addr.add_lit, Nat.zero_add] at c1 c2 c3
      have hwr : IntKind.i64.wrap ((j : Int) + 1) = (j : Int) + 1 := by rw [IntKind.wrap_i64]; omega
      have HQ := hide hq
      have HNX := hide (fun (h : l[j].kind = 0 ∨ l[j].kind = cs[j].2) => (show TypedTo l cs (j + 1) from fun a ha h1 h2 => by
        by_cases e : a = j
        · subst e; exact h
        · exact hn a (by omega) h1 h2))
      have HF := hide (fun (h1 : l[j].kind ≠ 0) (h2 : l[j].kind ≠ cs[j].2) => typed_false l cs j hlt hltc h1 h2)
      clear hn hq r1 r2 r3
      go_upto_region 4 with fail
      have hloc := heap_alloc_new wr (.cells #[.int .i64 (l[j].kind : Int), .int .i64 l[j].num, .string (bytesL l[j].word)] 184)
      have hbW : Below w.heap.size w (wr.alloc (.cells #[.int .i64 (l[j].kind : Int), .int .i64 l[j].num, .string (bytesL l[j].word)] 184)) := hb.alloc hb.size _
      generalize wr.alloc (.cells #[.int .i64 (l[j].kind : Int), .int .i64 l[j].num, .string (bytesL l[j].word)] 184) = W at *
      generalize wr.heap.size = G at *
      have d0 : W.cell? ⟨G, 0, none⟩ = some (.int .i64 (l[j].kind : Int)) := blk_cell hloc (i := 0) rfl
      have d1 : W.cell? ⟨b, 1, none⟩ = some (.slice (some ⟨gc, 0, none⟩) cs.length ccap) := (World.cell?_of_block (hbW.block b hblt)).trans hc
      obtain ⟨_, d2⟩ := col_cells (row_below hcr hbW) j hltc
      clear c1 c2 c3 hc
      generalize l[j].kind = kv at *
      generalize cs[j].2 = kc at *
      by_cases h0 : kv = 0
      · subst h0
        have HT := hide (HNX.out (Or.inl rfl))
        go_quiet (fail)
        go_wp2_with fail
        have hq := HQ.out
        go_roundg (l.length - j)
        case measure => omega
        case rel => exact ⟨j + 1, by omega, by go_num, HT.out, hbW.trans ⟨rfl, rfl, rfl, Nat.le_refl _, fun _ _ => rfl⟩, by omega⟩
      · have h0' : ¬ (kv : Int) = 0 := by omega
        by_cases h1 : kv = kc
        · subst h1
          have HT := hide (HNX.out (Or.inr rfl))
          go_quiet (fail)
          go_wp2_with fail
          have hq := HQ.out
          go_roundg (l.length - j)
          case measure => omega
          case rel => exact ⟨j + 1, by omega, by go_num, HT.out, hbW.trans ⟨rfl, rfl, rfl, Nat.le_refl _, fun _ _ => rfl⟩, by omega⟩
        · have h1' : ¬ (kv : Int) = (kc : Int) := by omega
          have HT := hide (HF.out h0 h1)
          have h0b : ((kv : Int) != 0) = true := bne_iff_ne.2 h0'
          have h1b : ((kv : Int) != (kc : Int)) = true := bne_iff_ne.2 h1'
          clear h0' h1'
          go_quiet (fail)
          go_wp2_with fail
          go_ret
          exact ⟨by rw [HT.out]; rfl, hbW.trans ⟨rfl, rfl, rfl, Nat.le_refl _, fun _ _ => rfl⟩⟩
    · have hlt' : (l.length : Int) ≤ (j : Int) := by omega
      have hj' : j = l.length := by omega
      have HF := hide (typed_true l cs (hj' ▸ hn))
      clear hn hq hj'
      go_wp2_with fail
      go_ret
      exact ⟨by rw [HF.out]; rfl, hb⟩
end Go.Proofs.YtbkeflgafjnefaaGreatDoor
