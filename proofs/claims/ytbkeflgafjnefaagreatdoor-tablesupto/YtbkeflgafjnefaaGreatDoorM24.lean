/- Towards the law of tables: H1. -/
import Derived.Test.YtbkeflgafjnefaaGreatDoorM02
import Derived.Deep.RegionLaw
import Derived.Deep.AppendLies
import Derived.Deep.LoopGhost
import Derived.Lib.SliceRun
import Derived.Deep.DeepCutAuto
import Derived.Deep.CutBlock
import Derived.Laws.OwnMore
namespace Go.Proofs.YtbkeflgafjnefaaGreatDoor
open Go.RowKit
theorem heap_setCells_other (b : Nat) : ∀ (vs : List Value) (o : Nat) (w : World) (k : Nat), k ≠ b → (w.setCells b o vs).heap[k]? = w.heap[k]?
  | [], _, _, _, _ => rfl
  | v :: r, o, w, k, h => by rw [World.setCells, heap_setCells_other b r (o + 1) _ k h]; exact Below.heap_setCell _ _ _ k h
theorem heap_setCells_at (b : Nat) (e : TypeId) : ∀ (vs : List Value) (o : Nat) (w : World) (cur : Array Value), w.heap[b]? = some (.cells cur e (0, 0)) → o + vs.length ≤ cur.size →
    ∃ cur', (w.setCells b o vs).heap[b]? = some (.cells cur' e (0, 0)) ∧ cur'.size = cur.size ∧ cur'.toList = cur.toList.take o ++ vs ++ cur.toList.drop (o + vs.length)
  | [], o, w, cur, h, hl => ⟨cur, h, rfl, by simp⟩
  | v :: r, o, w, cur, h, hl => by
    rw [List.length_cons] at hl
    have h1 := heap_setCell_same w b o cur e v h
    obtain ⟨cur', h2, h3, h4⟩ := heap_setCells_at b e r (o + 1) (w.setCell ⟨b, o, none⟩ v) (cur.setIfInBounds o v) h1 (by simp; omega)
    refine ⟨cur', h2, by simpa using h3, ?_⟩
    have hlc : cur.toList.length = cur.size := Array.length_toList
    rw [h4, Array.toList_setIfInBounds]
    rw [List.take_succ_eq_append_getElem (by rw [List.length_set]; omega), List.getElem_set_self, List.take_set_of_le (by omega), List.drop_set_of_lt (by omega), List.length_cons]
    simp
    congr 1
    omega
theorem setCells_os (b : Nat) : ∀ (vs : List Value) (o : Nat) (w : World), (w.setCells b o vs).os = w.os ∧ (w.setCells b o vs).tape = w.tape ∧ (w.setCells b o vs).output = w.output ∧ (w.setCells b o vs).heap.size = w.heap.size
  | [], _, _ => ⟨rfl, rfl, rfl, rfl⟩
  | v :: r, o, w => by
    obtain ⟨h1, h2, h3, h4⟩ := setCells_os b r (o + 1) (w.setCell ⟨b, o, none⟩ v)
    exact ⟨h1, h2, h3, h4.trans (by simp [World.setCell])⟩
theorem run_clear_two {P : Program} (w : World) (t e ty : TypeId) (x y : Value) (ht : P.underlying t = some (.slice e)) (hv : ∀ w, (zeroValue e).run P w = .ok (.agg #[x, y]) w) (hx : x.oneCell' = true) (hy : y.oneCell' = true) (hz : (Builtin.zeroCells (Value.agg #[x, y]).cells 1).toList = [x, y]) (b o c : Nat)
    (hc : ∀ j, j < 2 → (w.cell? ⟨b, o + j, none⟩).isSome = true) (hf : ∀ j, j < 2 → w.frozen? ⟨b, o + j, none⟩ = false) :
    (Builtin.clear_ #[t] ty #[.slice (some ⟨b, o, none⟩) 1 c]).run P w = .ok (.tuple #[]) (w.setCells b o [x, y]) := by
  have hst := run_storeCells_cells (P := P) b o [x, y] 0 w (by simpa using hc) (by simpa using hf) (by intro v hv'; simp at hv'; rcases hv' with rfl | rfl <;> assumption)
  simp only [Nat.add_zero] at hst
  simp [Builtin.clear_, run_underlying ht, hv, hz, hst]
theorem zero_two : (Builtin.zeroCells (Value.agg #[.int .i64 0, .slice none 0 0]).cells 1).toList = [.int .i64 0, .slice none 0 0] := by kernel_rfl
theorem infoTRow : (Tryz.prog.info? 187).map (fun i => (i.zero, i.size, i.bytes)) = some (some (.agg #[.int .i64 0, .slice none 0 0]), 2, 32) := by kernel_rfl
/-- The cells of a row without one element. -/
theorem del_cells {cur : Array Value} {n i cap : Nat} {xs : List Value} {c1 c2 : Array Value} (hi : i < n) (hn : n ≤ cap) (hs : cur.size = cap * 2) (hx : cur.toList.take (n * 2) = xs)
    (h1 : c1.toList = cur.toList.take (i * 2) ++ xs.drop (i * 2 + 2) ++ cur.toList.drop (i * 2 + (xs.drop (i * 2 + 2)).length)) (a b : Value)
    (h2 : c2.toList = c1.toList.take ((n - 1) * 2) ++ [a, b] ++ c1.toList.drop ((n - 1) * 2 + 2)) : c2.toList.take ((n - 1) * 2) = xs.take (i * 2) ++ xs.drop (i * 2 + 2) := by
  have hlc : cur.toList.length = cap * 2 := by rw [Array.length_toList, hs]
  have hlx : xs.length = n * 2 := by rw [← hx, List.length_take]; omega
  have e1 : cur.toList.take (i * 2) = xs.take (i * 2) := by rw [← hx, List.take_take]; congr 1; omega
  have l1 : (xs.take (i * 2) ++ xs.drop (i * 2 + 2)).length = (n - 1) * 2 := by rw [List.length_append, List.length_take, List.length_drop]; omega
  have e2 : c1.toList.take ((n - 1) * 2) = xs.take (i * 2) ++ xs.drop (i * 2 + 2) := by
    rw [h1, e1, List.take_append_of_le_length (by omega), List.take_of_length_le (by omega)]
  rw [h2, e2, List.append_assoc, List.take_append_of_le_length (by omega), List.take_of_length_le (by omega)]
set_option maxHeartbeats 4000000 in
set_option maxRecDepth 100000 in
/-- slices.Delete of one row of a table. -/
theorem sdel_any (lo g cap n i : Nat) (xs : List Value) (w : World) (hrow : w.ownsRow lo 187 2 (.slice (some ⟨g, 0, none⟩) n cap) n xs) (h1c : ∀ u ∈ xs, u.oneCell' = true) (hi : i < n) (hn : n ≤ 1000) :
    Calls Tryz.prog 127 #[.slice (some ⟨g, 0, none⟩) n cap, .int .i64 (i : Int), .int .i64 ((i : Int) + 1)] w fun e w' => e = .returned (.slice (some ⟨g, 0, none⟩) (n - 1) cap) ∧ w'.ownsRow lo 187 2 (.slice (some ⟨g, 0, none⟩) (n - 1) cap) (n - 1) (xs.take (i * 2) ++ xs.drop (i * 2 + 2)) ∧ w.grownBy w' (some g) := by
  obtain ⟨i0, hi0, hz0, hz1, hz2⟩ := info_parts infoTRow
  obtain ⟨hlx, hrow2⟩ := hrow
  rcases hrow2 with ⟨e, _⟩ | ⟨g', cap', cur, e, hlo, hgb, hnc, hcm, hcs, htk⟩
  · cases e
  obtain ⟨rfl, rfl⟩ : g = g' ∧ cap = cap' := by
    injection e with e1 e2 e3
    injection e1 with e1
    injection e1 with e1
    exact ⟨e1, e3⟩
  clear e
  unfold maxLen at hcm
  generalize hnews : xs.drop (i * 2 + 2) = news
  have hlen : news.length = (n - (i + 1)) * 2 := by rw [← hnews, List.length_drop]; omega
  have hbd : w.drew.heap[g]? = some (.cells cur 187 (0, 0)) := hgb
  obtain ⟨cur1, hb1, hs1, ht1⟩ := heap_setCells_at g 187 news (i * 2) w.drew cur hbd (by rw [hlen, hcs]; omega)
  have hcell : ∀ (j : Nat) u, cur.toList[j]? = some u → w.drew.cell? ⟨g, j, none⟩ = some u := by
    intro j u hu
    rw [Array.getElem?_toList] at hu
    simp [World.cell?, hbd, hu]
  obtain ⟨A, hA, hsrc⟩ : ∃ A : Addr, (if cap = i + 1 then some (⟨g, 0, none⟩ : Addr) else some ⟨g, (i + 1) * 2, none⟩) = some A ∧ Hid (∀ t u, news[t]? = some u → w.drew.cell? (A.add t) = some u) := by
    by_cases h : cap = i + 1
    · refine ⟨⟨g, 0, none⟩, by simp [h], fun t u hu => ?_⟩
      have h0 : news.length = 0 := by rw [hlen]; omega
      rw [List.length_eq_zero_iff.1 h0] at hu
      simp at hu
    · refine ⟨⟨g, (i + 1) * 2, none⟩, by simp [h], fun t u hu => ?_⟩
      have ht : t < news.length := (List.getElem?_eq_some_iff.1 hu).1
      rw [Addr.add_lit]
      refine hcell _ _ ?_
      rw [← hnews, List.getElem?_drop, ← htk, List.getElem?_take, if_pos (by omega)] at hu
      rw [← hu]; congr 1; omega
  have s1 : Hid (news.length = (n - (i + 1)) * 2) := hlen
  have s2 : Hid (∀ u ∈ news, u.oneCell' = true) := fun u hu => h1c u (by rw [← hnews] at hu; exact List.mem_of_mem_drop hu)
  have s3 : Hid (∀ t, t < news.length → (w.drew.cell? ⟨g, 0 + i * 2 + t, none⟩).isSome = true ∧ w.drew.frozen? ⟨g, 0 + i * 2 + t, none⟩ = false) := by
    intro t ht
    rw [hlen] at ht
    refine ⟨?_, by simp [World.frozen?, hbd]⟩
    rw [hcell (0 + i * 2 + t) _ (List.getElem?_eq_getElem (by rw [Array.length_toList, hcs]; omega))]
    rfl
  obtain ⟨W1, hW1⟩ : ∃ W1, W1 = w.drew.setCells g (0 + i * 2) news := ⟨_, rfl⟩
  have e0 : 0 + i * 2 = i * 2 := by omega
  rw [e0] at hW1
  have hbW : W1.heap[g]? = some (.cells cur1 187 (0, 0)) := by rw [hW1]; exact hb1
  have hcl : ∀ ty, (Builtin.clear_ #[111] ty #[.slice (some ⟨g, (n - 1) * 2, none⟩) 1 (cap - (n - 1))]).run Tryz.prog W1 = .ok (.tuple #[]) (W1.setCells g ((n - 1) * 2) [.int .i64 0, .slice none 0 0]) :=
    fun ty => run_clear_two W1 _ _ ty _ _ Tryz.underlying111 Tryz.zeroValue187 rfl rfl zero_two g ((n - 1) * 2) _ (fun j hj => by simp [World.cell?, hbW, Array.getElem?_eq_getElem (show (n - 1) * 2 + j < cur1.size by rw [hs1, hcs]; omega)]) (fun j hj => by simp [World.frozen?, hbW])
  obtain ⟨cur2, hb2, hs2, ht2⟩ := heap_setCells_at g 187 [.int .i64 0, .slice none 0 0] ((n - 1) * 2) W1 cur1 hbW (by rw [hs1, hcs]; simp; omega)
  have hfin : Hid (w.grownBy (W1.setCells g ((n - 1) * 2) [.int .i64 0, .slice none 0 0]) (some g)) := hide (by
    obtain ⟨a1, a2, a3, a4⟩ := setCells_os g news (i * 2) w.drew
    obtain ⟨b1, b2, b3, b4⟩ := setCells_os g [.int .i64 0, .slice none 0 0] ((n - 1) * 2) W1
    rw [← hW1] at a1 a2 a3 a4
    refine ⟨b1.trans a1, b2.trans a2, b3.trans a3, Nat.le_of_eq (b4.trans a4).symm, fun k _ hk => ?_⟩
    have hkg : k ≠ g := fun e => hk (by rw [e])
    rw [heap_setCells_other g _ _ _ k hkg, hW1, heap_setCells_other g _ _ _ k hkg]
    rfl)
  have hrowF : Hid ((W1.setCells g ((n - 1) * 2) [.int .i64 0, .slice none 0 0]).ownsRow lo 187 2 (.slice (some ⟨g, 0, none⟩) (n - 1) cap) (n - 1) (xs.take (i * 2) ++ xs.drop (i * 2 + 2))) := hide (by
    refine ⟨?_, .inr ⟨g, cap, cur2, rfl, hlo, hb2, by omega, by unfold maxLen; omega, by rw [hs2, hs1, hcs], ?_⟩⟩
    · rw [List.length_append, List.length_take, List.length_drop]; omega
    · exact del_cells hi hnc hcs htk (by rw [ht1, hnews]) _ _ ht2)
  rw [hnews] at hrowF
  have hW : Hid (W1 = w.drew.setCells g (0 + i * 2) news) := hide (by rw [e0]; exact hW1)
  have hi' : (i : Int) + 1 ≤ (n : Int) := by omega
  have hnc' : (n : Int) ≤ (cap : Int) := by omega
  have hic : i ≤ cap := by omega
  have hj0 : (0 : Int) ≤ (i : Int) + 1 := by omega
  have hic1 : i + 1 ≤ cap := by omega
  have hne : ((i : Int) == (i : Int) + 1) = false := by rw [beq_eq_false_iff_ne]; omega
  clear hW1 hbW hb1 hb2 ht1 ht2 hs1 hs2 hgb hbd hcell htk hlx h1c hcs hlen hnews e0
  go_enter Tryz.func127, Tryz.ntmps127
  go_wp2_with fail
  go_region_law (refine step_append_room rfl (.tmp 22) (.tmp 25) 111 rfl 187 i0 2 Tryz.underlying111 hi0 hz1 g 0 i cap (by simp [Act.eval, Act.put]) A (n - (i + 1)) (cap - (i + 1)) news (by simp [Act.eval, Act.put]) s1.out hsrc.out s2.out (by omega) s3.out ?_; rw [← hW.out])
  rw [show i + (n - (i + 1)) = n - 1 from by omega]
  have hcn : ¬ cap = n - 1 := by omega
  have hn1 : n - (n - 1) = 1 := by omega
  have hnc1 : n - 1 ≤ cap := by omega
  have hn0 : ((n - 1 : Nat) : Int) ≤ (n : Int) := by omega
  have hn00 : (0 : Int) ≤ ((n - 1 : Nat) : Int) := by omega
  clear hA hic1 hic hi' hj0 hne
  go_wp2_with fail
  go_ret
  exact ⟨rfl, hrowF.out, hfin.out⟩
end Go.Proofs.YtbkeflgafjnefaaGreatDoor
