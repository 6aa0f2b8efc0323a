/- Towards the law of tables: Y1. -/
import Derived.Test.YtbkeflgafjnefaaGreatDoorM39
import Derived.Test.YtbkeflgafjnefaaGreatDoorRows
import Derived.Deep.Strs
namespace Go.Proofs.YtbkeflgafjnefaaGreatDoor
open Go.RowKit
open Go.WideShapes Go.Deep
open Trib
/- What a bound on the bulk gives. -/
theorem bulk_one {H : Type} (d : DataW H) : 1 ≤ Rows.uptoBulk d := by
  cases d with
  | lit l => cases l <;> simp [Rows.uptoBulk]
  | nil => simp [Rows.uptoBulk]
  | ptr d => simp [Rows.uptoBulk]
  | slice elems spare => simp [Rows.uptoBulk]
  | agg parts => simp [Rows.uptoBulk]
  | iface t d => simp [Rows.uptoBulk]
  | map entries => simp [Rows.uptoBulk]
  | held h => simp [Rows.uptoBulk]
theorem bulk_part {H : Type} {d : DataW H} {l : List (DataW H)} (h : d ∈ l) : Rows.uptoBulk d ≤ Rows.uptoBulkAll l := by
  induction l with
  | nil => cases h
  | cons x r ih =>
    simp only [Rows.uptoBulkAll]
    rcases List.mem_cons.1 h with rfl | h
    · omega
    · have := ih h; omega
theorem bulk_len {H : Type} (l : List (DataW H)) : l.length ≤ Rows.uptoBulkAll l := by
  induction l with
  | nil => simp [Rows.uptoBulkAll]
  | cons x r ih => have := bulk_one x; simp only [Rows.uptoBulkAll, List.length_cons]; omega
theorem bulk_slice {H : Type} (elems spare : List (DataW H)) : Rows.uptoBulkAll elems + 1 ≤ Rows.uptoBulk (.slice elems spare) := by
  simp only [Rows.uptoBulk]; omega
theorem bulk_string {H : Type} (bytes : List UInt8) : Rows.uptoBulk (DataW.lit (H := H) (.string bytes)) = bytes.length + 1 := by simp [Rows.uptoBulk]
theorem bulk_agg {H : Type} (l : List (DataW H)) : Rows.uptoBulk (.agg l) = Rows.uptoBulkAll l + 1 := by simp [Rows.uptoBulk]
theorem cells3 : Tryz.prog.cellsOf 3 = 1 := by kernel_rfl
theorem cells9 : Tryz.prog.cellsOf 9 = 1 := by kernel_rfl
theorem cells41 : Tryz.prog.cellsOf 41 = 1 := by kernel_rfl
theorem cells81 : Tryz.prog.cellsOf 81 = 6 := by kernel_rfl
instance : Inhabited StepD := ⟨⟨0, 0, 0, ⟨#[]⟩, ⟨#[]⟩, .slice none 0 0, []⟩⟩
theorem range_list {α : Type} (f : Nat → α) (n i : Nat) (h : i < n) : ((List.range n).map f)[i]'(by simpa using h) = f i := by simp
theorem wf_i64 {n : Int} (h : (Lit.int .i64 n).wf = true) : -9223372036854775808 ≤ n ∧ n ≤ 9223372036854775807 := by
  simp [Lit.wf, IntKind.min, IntKind.max, IntKind.signed, IntKind.bits] at h
  omega
section
variable {H : Type} {enc : TypeId × Value → H} {W : World}
/-- A list of strings that is read. -/
theorem open_list {fuel : Nat} {v : Value} {x : DataW H × List MemPlace} (h : DataW.trod enc Tryz.prog W 0 (fun _ => true) true fuel 41 [v] = some x) (hk : Rows.uptoBulk x.1 ≤ 1048576) :
    ∃ l : List ByteArray, StrIn W v l ∧ l.length ≤ 2000000 ∧ (∀ s ∈ l, s.size ≤ 2000000) ∧ (v = .slice none 0 0 ∨ ∃ a cap, v = .slice (some a) l.length cap) ∧ ∀ q off cap, v = .slice (some ⟨q, off, none⟩) l.length cap → l ≠ [] → q < W.heap.size := by
  rcases open_strs Tryz.underlying41 Tryz.underlying9 cells9 h with ⟨h0, rfl⟩ | ⟨a, len, cap, m, Sx, hcs, hb, hlc, hcm, hm, rfl, hc⟩
  · obtain rfl : v = .slice none 0 0 := by simpa using h0
    exact ⟨[], ⟨none, 0, rfl, .inl rfl⟩, by simp, by simp, .inl rfl, fun _ _ _ e => by cases e⟩
  · obtain rfl : v = .slice (some a) len cap := by simpa using hcs
    have hmc : m = cap := by simpa using hm
    have hlenb : (List.range len).length ≤ 1048576 := by
      have h1 := bulk_slice ((List.range len).map fun i => DataW.lit (H := H) (.string (Sx i).data.toList)) ((List.range (m - len)).map fun j => .lit (.string (Sx (len + j)).data.toList))
      have h2 := bulk_len ((List.range len).map fun i => DataW.lit (H := H) (.string (Sx i).data.toList))
      rw [List.length_map] at h2
      have hk' : Rows.uptoBulk (DataW.slice ((List.range len).map fun i => DataW.lit (H := H) (.string (Sx i).data.toList)) ((List.range (m - len)).map fun j => .lit (.string (Sx (len + j)).data.toList))) ≤ 1048576 := hk
      omega
    rw [List.length_range] at hlenb
    have hll : ((List.range len).map Sx).length = len := by simp
    have hcell : ∀ i (hi : i < len), W.cell? (a.add i) = some (.string (Sx i)) := fun i hi => (hc i (by omega)).1
    have hspot : 0 < len → a.spot = none := fun h0 => by
      have := hcell 0 h0
      rw [show a.add 0 = a from by simp [Addr.add]] at this
      exact World.cell?_spot this
    refine ⟨(List.range len).map Sx, ⟨some a, cap, by rw [hll], ?_⟩, by rw [hll]; omega, ?_, .inr ⟨a, cap, by rw [hll]⟩, ?_⟩
    · by_cases h0 : len = 0
      · subst h0; exact .inl rfl
      · right
        obtain ⟨q, off, sp⟩ := a
        have hs : sp = none := hspot (by omega)
        subst hs
        refine ⟨q, off, rfl, ?_, fun i hi => ?_⟩
        · have := hcell 0 (by omega)
          rw [Addr.add_lit] at this
          exact World.block_lt_of_cell? W _ this
        · have hi' : i < len := by simpa using hi
          have := hcell i hi'
          rw [Addr.add_lit] at this
          rw [range_list Sx len i hi']
          exact this
    · intro s hs
      obtain ⟨i, hi, rfl⟩ := List.mem_map.1 hs
      have hi' := List.mem_range.1 hi
      have h1 := bulk_slice ((List.range len).map fun i => DataW.lit (H := H) (.string (Sx i).data.toList)) ((List.range (m - len)).map fun j => .lit (.string (Sx (len + j)).data.toList))
      have h2 := bulk_part (d := DataW.lit (H := H) (.string (Sx i).data.toList)) (l := (List.range len).map fun i => DataW.lit (H := H) (.string (Sx i).data.toList)) (List.mem_map_of_mem (f := fun i => DataW.lit (H := H) (.string (Sx i).data.toList)) hi)
      rw [bulk_string, lenB] at h2
      have hk' : Rows.uptoBulk (DataW.slice ((List.range len).map fun i => DataW.lit (H := H) (.string (Sx i).data.toList)) ((List.range (m - len)).map fun j => .lit (.string (Sx (len + j)).data.toList))) ≤ 1048576 := hk
      omega
    · intro q off cap' e hne
      have h0 : 0 < len := by
        rcases Nat.eq_zero_or_pos len with h0 | h0
        · subst h0; exact absurd rfl hne
        · exact h0
      have e1 : a = ⟨q, off, none⟩ := by
        injection e with e1
        exact Option.some.inj e1
      have := hcell 0 h0
      rw [e1, Addr.add_lit] at this
      exact World.block_lt_of_cell? W _ this
theorem six {α : Type} {l : List α} (h : l.length = 6) : ∃ a b c d e f, l = [a, b, c, d, e, f] := by
  match l, h with
  | [a, b, c, d, e, f], _ => exact ⟨a, b, c, d, e, f, rfl⟩
/-- A step that is read. -/
theorem open_step {fuel : Nat} {cs : List Value} {x : DataW H × List MemPlace} (h : DataW.trod enc Tryz.prog W 0 (fun _ => true) true fuel 81 cs = some x) (hk : Rows.uptoBulk x.1 ≤ 1048576) :
    ∃ o : StepD, cs = o.cells.toList ∧ StepOk W o ∧ ∀ q off cap, o.lv = .slice (some ⟨q, off, none⟩) o.l.length cap → o.l ≠ [] → q < W.heap.size := by
  obtain ⟨xs, n, rfl, rfl, hl, hxl, hf⟩ := DataW.trod_struct Tryz.underlying81 h
  rw [cells81] at hl
  obtain ⟨c0, c1, c2, c3, c4, c5, rfl⟩ := six hl
  obtain ⟨x0, x1, x2, x3, x4, x5, rfl⟩ := six hxl
  have g0 : DataW.trod enc Tryz.prog W 0 (fun _ => true) true n 3 (List.take (Tryz.prog.cellsOf 3) (List.drop 0 [c0, c1, c2, c3, c4, c5])) = some x0 := hf 0 _ rfl
  rw [cells3] at g0
  replace g0 : DataW.trod enc Tryz.prog W 0 (fun _ => true) true n 3 [c0] = some x0 := g0
  have g1 : DataW.trod enc Tryz.prog W 0 (fun _ => true) true n 3 (List.take (Tryz.prog.cellsOf 3) (List.drop 1 [c0, c1, c2, c3, c4, c5])) = some x1 := hf 1 _ rfl
  rw [cells3] at g1
  replace g1 : DataW.trod enc Tryz.prog W 0 (fun _ => true) true n 3 [c1] = some x1 := g1
  have g2 : DataW.trod enc Tryz.prog W 0 (fun _ => true) true n 3 (List.take (Tryz.prog.cellsOf 3) (List.drop 2 [c0, c1, c2, c3, c4, c5])) = some x2 := hf 2 _ rfl
  rw [cells3] at g2
  replace g2 : DataW.trod enc Tryz.prog W 0 (fun _ => true) true n 3 [c2] = some x2 := g2
  have g3 : DataW.trod enc Tryz.prog W 0 (fun _ => true) true n 9 (List.take (Tryz.prog.cellsOf 9) (List.drop 3 [c0, c1, c2, c3, c4, c5])) = some x3 := hf 3 _ rfl
  rw [cells9] at g3
  replace g3 : DataW.trod enc Tryz.prog W 0 (fun _ => true) true n 9 [c3] = some x3 := g3
  have g4 : DataW.trod enc Tryz.prog W 0 (fun _ => true) true n 9 (List.take (Tryz.prog.cellsOf 9) (List.drop 4 [c0, c1, c2, c3, c4, c5])) = some x4 := hf 4 _ rfl
  rw [cells9] at g4
  replace g4 : DataW.trod enc Tryz.prog W 0 (fun _ => true) true n 9 [c4] = some x4 := g4
  have g5 : DataW.trod enc Tryz.prog W 0 (fun _ => true) true n 41 (List.take (Tryz.prog.cellsOf 41) (List.drop 5 [c0, c1, c2, c3, c4, c5])) = some x5 := hf 5 _ rfl
  rw [cells41] at g5
  replace g5 : DataW.trod enc Tryz.prog W 0 (fun _ => true) true n 41 [c5] = some x5 := g5
  clear hf hl hxl h
  have hk' : Rows.uptoBulk x0.1 + (Rows.uptoBulk x1.1 + (Rows.uptoBulk x2.1 + (Rows.uptoBulk x3.1 + (Rows.uptoBulk x4.1 + (Rows.uptoBulk x5.1 + 0))))) + 1 ≤ 1048576 := by
    have := hk
    simp only [List.map, bulk_agg, Rows.uptoBulkAll] at this
    omega
  obtain ⟨n0, e0, rfl, w0⟩ := DataW.trod_int Tryz.underlying3 g0
  obtain ⟨n1, e1, rfl, w1⟩ := DataW.trod_int Tryz.underlying3 g1
  obtain ⟨n2, e2, rfl, w2⟩ := DataW.trod_int Tryz.underlying3 g2
  obtain ⟨s3, e3, rfl, _⟩ := DataW.trod_string Tryz.underlying9 g3
  obtain ⟨s4, e4, rfl, _⟩ := DataW.trod_string Tryz.underlying9 g4
  obtain ⟨l, hin, hll, hls, hln, hlb⟩ := open_list g5 (by omega)
  obtain rfl : c0 = _ := by simpa using e0
  obtain rfl : c1 = _ := by simpa using e1
  obtain rfl : c2 = _ := by simpa using e2
  obtain rfl : c3 = _ := by simpa using e3
  obtain rfl : c4 = _ := by simpa using e4
  have b3 := bulk_string (H := H) s3.data.toList
  have b4 := bulk_string (H := H) s4.data.toList
  rw [lenB] at b3 b4
  dsimp only at hk'
  have ww := wf_i64 w1
  exact ⟨⟨n0, n1, n2, s3, s4, c5, l⟩, rfl, ⟨by show s3.size ≤ 2000000; omega, by show s4.size ≤ 2000000; omega, hll, hls, ww.1, ww.2, hin, hln⟩, hlb⟩
/-- A script that is read. -/
theorem open_script {v : Value} {d : DataW H} {p : List MemPlace} (ho : ∃ a len cap, v = .slice a len cap) (h : DataW.Trod enc Tryz.prog W 0 (fun _ => true) true 22 v d p) (hk : Rows.uptoBulk d ≤ 1048576) : ∃ os, ScriptIn W v os := by
  obtain ⟨av, lv, cv, rfl⟩ := ho
  obtain ⟨fuel, h⟩ := h
  rcases open_slice Tryz.underlying22 h with ⟨h0, hx⟩ | ⟨a, len, cap, m, n, D, Pl, hcs, hb, hlc, hcm, hm, hx, hc⟩
  · refine ⟨[], ⟨none, 0, ?_, .inl rfl⟩, by simp, fun o ho => absurd ho List.not_mem_nil⟩
    have := h0
    simpa [Value.cells] using this
  · have hv : (Value.slice av lv cv) = .slice (some a) len cap := by simpa [Value.cells] using hcs
    rw [hv]
    have hmc : m = cap := by simpa using hm
    injection hx with hd hp
    subst hd
    have hs := bulk_slice ((List.range len).map D) ((List.range (m - len)).map fun j => D (len + j))
    have hlen : len ≤ 1048576 := by
      have h2 := bulk_len ((List.range len).map D)
      rw [List.length_map, List.length_range] at h2
      omega
    have hst : ∀ i, i < len → ∃ o : StepD, (W.cells? 0 (a.add (i * 6)) 6 = some o.cells.toList) ∧ StepOk W o ∧ ∀ q off cap, o.lv = .slice (some ⟨q, off, none⟩) o.l.length cap → o.l ≠ [] → q < W.heap.size := fun i hi => by
      obtain ⟨cs', hc1, hc2⟩ := hc i (by omega)
      rw [cells81] at hc1
      have h2 := bulk_part (d := D i) (l := (List.range len).map D) (List.mem_map_of_mem (f := D) (List.mem_range.2 hi))
      obtain ⟨o, rfl, h3, h4⟩ := open_step hc2 (by show Rows.uptoBulk (D i) ≤ _; omega)
      exact ⟨o, hc1, h3, h4⟩
    obtain ⟨O, hO⟩ := choose_lt hst
    have hll : ((List.range len).map O).length = len := by simp
    refine ⟨(List.range len).map O, ⟨some a, cap, by rw [hll], ?_⟩, by rw [hll]; exact hlen, ?_⟩
    · by_cases h0 : len = 0
      · subst h0; exact .inl rfl
      · right
        have hcell : ∀ i (hi : i < len) j u, (O i).cells[j]? = some u → W.cell? ((a.add (i * 6)).add j) = some u := fun i hi j u hu => by
          obtain ⟨_, hl6, hc6⟩ := World.cells?_some (hO i hi).1
          have hj : j < 6 := (Array.getElem?_eq_some_iff.1 hu).1
          have := hc6 j hj
          rw [this]
          simpa using hu
        have h00 := hcell 0 (by omega) 0 _ rfl
        have hspot : a.spot = none := by
          rw [show (a.add (0 * 6)).add 0 = a from by simp [Addr.add]] at h00
          exact World.cell?_spot h00
        obtain ⟨q, off, sp⟩ := a
        have hsn : sp = none := hspot
        subst hsn
        refine ⟨q, off, rfl, ?_, fun i hi j u hu => ?_⟩
        · rw [Addr.add_lit, Addr.add_lit] at h00
          exact World.block_lt_of_cell? W _ h00
        · have hi' : i < len := by simpa using hi
          rw [range_list O len i hi'] at hu
          have := hcell i hi' j u hu
          rw [Addr.add_lit, Addr.add_lit] at this
          exact this
    · intro o ho
      obtain ⟨i, hi, rfl⟩ := List.mem_map.1 ho
      exact (hO i (List.mem_range.1 hi)).2
end
end Go.Proofs.YtbkeflgafjnefaaGreatDoor
