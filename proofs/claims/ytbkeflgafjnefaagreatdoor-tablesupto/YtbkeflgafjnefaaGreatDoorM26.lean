/- Towards the law of tables: G9, S2, S3, S4, S5, S6. -/
import Derived.Test.YtbkeflgafjnefaaGreatDoorM23
import Derived.Test.YtbkeflgafjnefaaGreatDoorM09
import Derived.Test.YtbkeflgafjnefaaGreatDoorM25
import Derived.Deep.AppendLies
namespace Go.Proofs.YtbkeflgafjnefaaGreatDoor
open Go.RowKit
open Trib
/-- A table's own block. -/
def TbIs (w : World) (b : Nat) (name : ByteArray) (cv rv : Value) (last : Nat) : Prop := w.heap[b]? = some (.cells #[.string name, cv, rv, .int .i64 (last : Int)] 233 (0, 0))
theorem TbIs.set3 {w : World} {b : Nat} {name : ByteArray} {cv rv : Value} {last : Nat} (h : TbIs w b name cv rv last) (n : Nat) : TbIs (w.setCell ⟨b, 3, none⟩ (.int .i64 (n : Int))) b name cv rv n := by
  have h' : w.heap[b]? = some (.cells #[.string name, cv, rv, .int .i64 (last : Int)] 233 (0, 0)) := h
  show (w.setCell ⟨b, 3, none⟩ (.int .i64 (n : Int))).heap[b]? = _
  simp [World.setCell, Array.getElem?_modify, h']
theorem TbIs.set2 {w : World} {b : Nat} {name : ByteArray} {cv rv : Value} {last : Nat} (h : TbIs w b name cv rv last) (rv' : Value) : TbIs (w.setCell ⟨b, 2, none⟩ rv') b name cv rv' last := by
  have h' : w.heap[b]? = some (.cells #[.string name, cv, rv, .int .i64 (last : Int)] 233 (0, 0)) := h
  show (w.setCell ⟨b, 2, none⟩ rv').heap[b]? = _
  simp [World.setCell, Array.getElem?_modify, h']
theorem infoRow : (Tryz.prog.info? 187).map (fun i => (i.zero, i.size, i.bytes)) = some (some (.agg #[.int .i64 0, .slice none 0 0]), 2, 32) := by kernel_rfl
theorem row_apart5 {w : World} {lo n k size : Nat} {e T : TypeId} {v : Value} {xs : List Value} {cs : Array Value} (hrow : w.ownsRow lo e size v n xs) (h : w.heap[k]? = some (.cells cs T (0, 0))) (hT : T ≠ e) : v.ownBlock ≠ some k := by
  rcases hrow.2 with ⟨rfl, _⟩ | ⟨g, cap, cur, rfl, _, hgb, _⟩
  · simp [Value.ownBlock]
  · intro e'
    simp [Value.ownBlock] at e'
    subst e'
    rw [h] at hgb
    simp at hgb
    exact hT hgb.2
/-- What Insert into a table answers where a row is laid. -/
def TInsOk (w : World) (lo b : Nat) (name : ByteArray) (cv rv : Value) (last n : Nat) (xs : List Value) (l : List Vl) (e : Ending) (w' : World) : Prop :=
  e = .returned (.tuple #[.int .i64 ((last + 1 : Nat) : Int), .int .i64 0]) ∧ ∃ k rv', w.heap.size ≤ k ∧ w'.ownsRow w.heap.size 184 3 (.slice (some ⟨k, 0, none⟩) l.length l.length) l.length (vlCells l) ∧ TbIs w' b name cv rv' (last + 1) ∧ w'.ownsRow lo 187 2 rv' (n + 1) (xs ++ [.int .i64 ((last + 1 : Nat) : Int), .slice (some ⟨k, 0, none⟩) l.length l.length]) ∧ (∀ q, rv'.ownBlock = some q → rv.ownBlock = some q ∨ w.heap.size ≤ q) ∧ Stp (fun q => q = b ∨ rv.ownBlock = some q) w w'
/-- What it answers else. -/
def TInsNo (c : Nat) (w : World) (e : Ending) (w' : World) : Prop := e = .returned (.tuple #[.int .i64 0, .int .i64 (c : Int)]) ∧ Below w.heap.size w w'
def TInsR (ty full : Bool) (A B C : Ending → World → Prop) : Ending → World → Prop := match ty, full with
  | false, _ => A
  | true, true => B
  | true, false => C
section
variable (lo b g cap gc ccap : Nat) (name : ByteArray) (rv : Value) (last n : Nat) (xs : List Value) (cs : List (ByteArray × Nat)) (vals : List ByteArray) (w : World)
    (h : TbIs w b name (.slice (some ⟨gc, 0, none⟩) cs.length ccap) rv last) (hcr : w.ownsRow 0 228 2 (.slice (some ⟨gc, 0, none⟩) cs.length ccap) cs.length (colCells cs)) (hrow : w.ownsRow lo 187 2 rv n xs)
    (hlo : lo ≤ w.heap.size) (hn : n ≤ 1000) (hla : last ≤ 1000000000) (hcs : cs.length ≤ 1000) (hv : StrAt w g vals) (hg : g < w.heap.size) (hl : vals.length ≤ 2000000) (hs : ∀ t ∈ vals, t.size ≤ 2000000)
include h hcr hrow hlo hn hla hcs hv hg hl hs
omit hcr hrow hlo hn hla in
set_option maxHeartbeats 8000000 in
set_option maxRecDepth 100000 in
theorem tinsert_text (hm : (if vals.length = cs.length then allOf Trib.valOf vals else none) = none) : Calls Tryz.prog 74 #[.pointer (some ⟨b, 0, none⟩), .slice (some ⟨g, 0, none⟩) vals.length cap] w (TInsNo 1 w) := by
  have hu : w.heap[b]? = some (.cells #[.string name, .slice (some ⟨gc, 0, none⟩) cs.length ccap, rv, .int .i64 (last : Int)] 233 (0, 0)) := h
  have HRV := hide (readValues_any b g cap cs.length ccap _ vals w (blk_cell hu (i := 1) rfl) hv hg hl hcs hs)
  unfold ValsPost at HRV
  rw [hm] at HRV
  clear hm hv hs
  go_enter Tryz.func74, Tryz.ntmps74
  go_wp2_with (go_at_call 123; refine HRV.out.mono ?_; rintro e w2 ⟨rfl, hb2⟩)
  go_ret2
  exact ⟨rfl, hb2⟩
set_option maxHeartbeats 8000000 in
set_option maxRecDepth 100000 in
theorem tinsert_rest (l : List Vl) (hm : (if vals.length = cs.length then allOf Trib.valOf vals else none) = some l) (ty : Bool) (hty : typedE l cs = ty) (full : Bool) (hfull : decide (20 ≤ n) = full) :
    Calls Tryz.prog 74 #[.pointer (some ⟨b, 0, none⟩), .slice (some ⟨g, 0, none⟩) vals.length cap] w (TInsR ty full (TInsNo 5 w) (TInsNo 7 w) (TInsOk w lo b name (.slice (some ⟨gc, 0, none⟩) cs.length ccap) rv last n xs l)) := by
  obtain ⟨i0, hi, hz0, hz1, hz2⟩ := info_parts infoRow
  have hu : w.heap[b]? = some (.cells #[.string name, .slice (some ⟨gc, 0, none⟩) cs.length ccap, rv, .int .i64 (last : Int)] 233 (0, 0)) := h
  have hblt : b < w.heap.size := (Array.getElem?_eq_some_iff.1 hu).1
  have HRV := hide (readValues_any b g cap cs.length ccap _ vals w (blk_cell hu (i := 1) rfl) hv hg hl hcs hs)
  obtain ⟨ra, rcap, rfl⟩ := row_shape hrow
  unfold ValsPost at HRV
  rw [hm] at HRV
  have HLL : Hid (l.length = cs.length) := hide (by
    split at hm
    · rename_i e; rw [← e]; exact allOf_len _ _ _ hm
    · cases hm)
  have hl1000 : l.length ≤ 1000 := by have := HLL.out; omega
  clear hm hv hs
  go_enter Tryz.func74, Tryz.ntmps74
  go_wp2_with (go_at_call 123; refine HRV.out.mono ?_; rintro e w2 ⟨⟨k, hk, rfl, hvr⟩, hb2⟩)
  have hu2 := (hb2.block b hblt).trans hu
  have hblt2 : b < w2.heap.size := (Array.getElem?_eq_some_iff.1 hu2).1
  have HTY := hide (isTyped_any b k l.length gc ccap l cs w2 hblt2 HLL.out hl1000 (blk_cell hu2 (i := 1) rfl) (row_below hcr hb2) (row_low (Nat.zero_le _) hvr))
  rw [hty] at HTY
  clear hty
  refine HTY.out.mono ?_
  rintro e w3 ⟨rfl, hb3⟩
  have z2 := hb2.size
  have hbw3 := hb2.trans (hb3.mono z2)
  have hu3 := (hb3.block b hblt2).trans hu2
  have hrow3 := row_below hrow hbw3
  have hvr3 := row_below hvr hb3
  have z3 := hb3.size
  have c2 : w3.cell? ⟨b, 2, none⟩ = some (.slice ra n rcap) := blk_cell hu3 (i := 2) rfl
  have hkw3 : k < w3.heap.size := (hvr3.lt k rfl).2
  clear HTY HRV hu hu2 hcr hrow h
  cases ty
  · go_wp2_with fail
    go_ret2
    exact (show TInsNo 5 w _ _ from ⟨rfl, hbw3⟩)
  · cases full
    · have h20' : (n : Int) < 20 := by have := of_decide_eq_false hfull; omega
      clear hfull
      have c3 : w3.cell? ⟨b, 3, none⟩ = some (.int .i64 (last : Int)) := blk_cell hu3 (i := 3) rfl
      have f3 : w3.frozen? ⟨b, 3, none⟩ = false := blk_free hu3
      have hblt3 : b < w3.heap.size := (Array.getElem?_eq_some_iff.1 hu3).1
      have hwr : IntKind.i64.wrap ((last : Int) + 1) = (last : Int) + 1 := by rw [IntKind.wrap_i64]; omega
      have hcast : ((last + 1 : Nat) : Int) = (last : Int) + 1 := by omega
      have h3 : TbIs w3 b name (.slice (some ⟨gc, 0, none⟩) cs.length ccap) (.slice ra n rcap) last := hu3
      have hap : (Value.slice ra n rcap).ownBlock ≠ some b := row_apart5 hrow3 hu3 (by decide)
      have HT3 := hide (h3.set3 (last + 1))
      have HR1 := hide (ownsRow_setCell_other hrow3 hap (.int .i64 ((last + 1 : Nat) : Int)) : (w3.setCell ⟨b, 3, none⟩ (.int .i64 ((last + 1 : Nat) : Int))).ownsRow lo 187 2 (.slice ra n rcap) n xs)
      have HF1 : Hid (∀ q, q < w3.heap.size → q ≠ b → (w3.setCell ⟨b, 3, none⟩ (.int .i64 ((last + 1 : Nat) : Int))).heap[q]? = w3.heap[q]?) := hide (fun q _ hq => Below.heap_setCell _ _ _ q hq)
      have HZ1 : Hid ((w3.setCell ⟨b, 3, none⟩ (.int .i64 ((last + 1 : Nat) : Int))).heap.size = w3.heap.size) := hide (by simp [World.setCell])
      have HO1 : Hid (Stp (fun q => q = b ∨ (Value.slice ra n rcap).ownBlock = some q) w3 (w3.setCell ⟨b, 3, none⟩ (.int .i64 ((last + 1 : Nat) : Int)))) := hide (Stp.set b 3 _ (.inl rfl))
      go_upto_region 9 with fail
      rw [← hcast]
      generalize w3.setCell ⟨b, 3, none⟩ (.int .i64 ((last + 1 : Nat) : Int)) = W at *
      have e2 : W.cell? ⟨b, 2, none⟩ = some (.slice ra n rcap) := blk_cell HT3.out (i := 2) rfl
      have e3 : W.cell? ⟨b, 3, none⟩ = some (.int .i64 ((last + 1 : Nat) : Int)) := blk_cell HT3.out (i := 3) rfl
      have hrow1 := HR1.out
      clear c2 c3 f3
      have hbltW : b < W.heap.size := by have := HZ1.out; omega
      generalize hNN : ((last + 1 : Nat) : Int) = NN at *
      have HNN := hide hNN
      clear hNN hcast hwr
      go_region_law (refine step_append_lies _ (by rfl) _ _ 111 (by rfl) lo 187 i0 (.agg #[.int .i64 0, .slice none 0 0]) 2 32 Tryz.underlying111 hi hz0 hz1 hz2 rfl (by decide) (.slice ra n rcap) n xs (by rfl) (hrow1.alloc _) ⟨W.heap.size, 0, none⟩ 1 1 [.int .i64 NN, .slice (some ⟨k, 0, none⟩) l.length l.length] (by rfl) (by rfl) (tok_new _ _ _ _) (by simp [Value.oneCell']) (by decide) (by unfold maxLen; omega) (by omega) (by have := HZ1.out; simp; omega) (W.heap.size + 1) (by simp) ?_; intro g5 cap5 w5 hown5 hgrow5 hat5 hlt5; have hb5 : w5.heap[b]? = some (.cells #[.string name, .slice (some ⟨gc, 0, none⟩) cs.length ccap, .slice ra n rcap, .int .i64 NN] 233 (0, 0)) := (hgrow5.block b (by have := HZ1.out; simp; omega) (fun e => hap e.symm)).trans ((Below.heap_alloc W _ b (by have := HZ1.out; omega)).trans (by have := HT3.out; unfold TbIs at this; rw [HNN.out] at this; exact this)); have d2 := blk_cell hb5 (i := 2) rfl; have df2 := blk_free (i := 2) hb5)
      all_goals
        have htb : TbIs w5 b name (.slice (some ⟨gc, 0, none⟩) cs.length ccap) (.slice ra n rcap) (last + 1) := by unfold TbIs; rw [HNN.out]; exact hb5
        have zz := HZ1.out
        have z5 : w.heap.size ≤ w5.heap.size := by have := hgrow5.size; simp at this; omega
        have hrow5 := hown5
        rw [← HNN.out] at hrow5
        have hap5 := row_apart5 hrow5 hb5 (by decide)
        have hfr3 : ∀ q, q < w3.heap.size → q ≠ b → (Value.slice ra n rcap).ownBlock ≠ some q → (w5.setCell ⟨b, 2, none⟩ (.slice (some ⟨g5, 0, none⟩) (n + 1) cap5)).heap[q]? = w3.heap[q]? := fun q hq hqb hqo =>
          (Below.heap_setCell _ _ _ q hqb).trans ((hgrow5.block q (by simp; omega) (fun e => hqo e.symm)).trans ((Below.heap_alloc W _ q (by omega)).trans (HF1.out q hq hqb)))
        have hstp : Stp (fun q => q = b ∨ (Value.slice ra n rcap).ownBlock = some q) w (w5.setCell ⟨b, 2, none⟩ (.slice (some ⟨g5, 0, none⟩) (n + 1) cap5)) := (((Stp.of hbw3).andThen HO1.out).andThen ((Stp.of (((Below.refl _ _).alloc (Nat.le_refl _) _).drew)).andThen (Stp.grown hgrow5 (fun k e => .inr e)))).andThen (Stp.set b 2 _ (.inl rfl))
        have zf : w.heap.size ≤ (w5.setCell ⟨b, 2, none⟩ (.slice (some ⟨g5, 0, none⟩) (n + 1) cap5)).heap.size := by simpa [World.setCell] using z5
        have hset := htb.set2 (.slice (some ⟨g5, 0, none⟩) (n + 1) cap5)
        have hrowF : (w5.setCell ⟨b, 2, none⟩ (.slice (some ⟨g5, 0, none⟩) (n + 1) cap5)).ownsRow lo 187 2 (.slice (some ⟨g5, 0, none⟩) (n + 1) cap5) (n + 1) (xs ++ [.int .i64 ((last + 1 : Nat) : Int), .slice (some ⟨k, 0, none⟩) l.length l.length]) := ownsRow_setCell_other hrow5 hap5 _
        have hvrF : (w5.setCell ⟨b, 2, none⟩ (.slice (some ⟨g5, 0, none⟩) (n + 1) cap5)).ownsRow w.heap.size 184 3 (.slice (some ⟨k, 0, none⟩) l.length l.length) l.length (vlCells l) := by
          refine ⟨hvr3.1, ?_⟩
          rcases hvr3.2 with ⟨e, _⟩ | ⟨g', cap', cur, e, hgl, hgb, rest⟩
          · cases e
          · obtain rfl : k = g' := by simpa using (Value.slice.inj e).1
            refine .inr ⟨k, cap', cur, e, hgl, (hfr3 k hkw3 (by omega) (row_apart5 hrow3 hgb (by decide))).trans hgb, rest⟩
        have hown : ∀ q, (Value.slice (some ⟨g5, 0, none⟩) (n + 1) cap5).ownBlock = some q → (Value.slice ra n rcap).ownBlock = some q ∨ w.heap.size ≤ q := fun q hq => by
          obtain rfl : g5 = q := by simpa [Value.ownBlock] using hq
          rcases hat5 with h | h
          · exact .inl h
          · exact .inr (by omega)
        have c9 := blk_cell hset (i := 3) rfl
        have HOK : Hid (TInsOk w lo b name (.slice (some ⟨gc, 0, none⟩) cs.length ccap) (.slice ra n rcap) last n xs l (.returned (.tuple #[.int .i64 ((last + 1 : Nat) : Int), .int .i64 0])) (w5.setCell ⟨b, 2, none⟩ (.slice (some ⟨g5, 0, none⟩) (n + 1) cap5))) := hide ⟨rfl, k, _, hk, hvrF, hset, hrowF, hown, hstp⟩
        clear zz hset hrowF hvrF hfr3 zf hown hstp htb hrow5 hown5 hb5 d2 df2
        go_wp2_with fail
        go_ret2
        exact HOK.out
    · have h20' : (20 : Int) ≤ (n : Int) := by have := of_decide_eq_true hfull; omega
      clear hfull
      go_wp2_with fail
      go_ret2
      exact (show TInsNo 7 w _ _ from ⟨rfl, hbw3⟩)
end
end Go.Proofs.YtbkeflgafjnefaaGreatDoor
namespace Go.Proofs.YtbkeflgafjnefaaGreatDoor
open Go.RowKit
open Trib
/-- The rows of a table: their numbers, and their values where they lie. -/
def RowsAre (F : Nat → Prop) (w : World) : List (Nat × Value) → List (Nat × List Vl) → Prop
  | [], [] => True
  | a :: r, b :: s => (a.1 = b.1 ∧ RowF F w 184 3 a.2 b.2.length (vlCells b.2)) ∧ RowsAre F w r s
  | _, _ => False
theorem RowsAre.len {F : Nat → Prop} {w : World} : ∀ {rs : List (Nat × Value)} {l : List (Nat × List Vl)}, RowsAre F w rs l → rs.length = l.length
  | [], [], _ => rfl
  | _ :: _, _ :: _, h => by rw [List.length_cons, List.length_cons, RowsAre.len h.2]
  | [], _ :: _, h => h.elim
  | _ :: _, [], h => h.elim
theorem RowsAre.move {F F' : Nat → Prop} {w w' : World} (m : Mov F F' w w') : ∀ {rs : List (Nat × Value)} {l : List (Nat × List Vl)}, RowsAre F w rs l → RowsAre F' w' rs l
  | [], [], _ => trivial
  | _ :: _, _ :: _, h => ⟨⟨h.1.1, h.1.2.move m⟩, RowsAre.move m h.2⟩
  | [], _ :: _, h => h.elim
  | _ :: _, [], h => h.elim
theorem RowsAre.snoc {F : Nat → Prop} {w : World} {a : Nat × Value} {b : Nat × List Vl} (h1 : a.1 = b.1) (h2 : RowF F w 184 3 a.2 b.2.length (vlCells b.2)) : ∀ {rs : List (Nat × Value)} {l : List (Nat × List Vl)}, RowsAre F w rs l → RowsAre F w (rs ++ [a]) (l ++ [b])
  | [], [], _ => ⟨⟨h1, h2⟩, trivial⟩
  | _ :: _, _ :: _, h => ⟨h.1, RowsAre.snoc h1 h2 h.2⟩
  | [], _ :: _, h => h.elim
  | _ :: _, [], h => h.elim
theorem RowsAre.erase {F : Nat → Prop} {w : World} : ∀ {rs : List (Nat × Value)} {l : List (Nat × List Vl)} (i : Nat), RowsAre F w rs l → RowsAre F w (rs.eraseIdx i) (l.eraseIdx i)
  | [], [], _, _ => trivial
  | _ :: _, _ :: _, 0, h => h.2
  | _ :: _, _ :: _, i + 1, h => ⟨h.1, RowsAre.erase i h.2⟩
  | [], _ :: _, _, h => h.elim
  | _ :: _, [], _, h => h.elim
theorem RowsAre.find {F : Nat → Prop} {w : World} (m : Int) : ∀ {rs : List (Nat × Value)} {l : List (Nat × List Vl)}, RowsAre F w rs l → rs.findIdx? (fun r => (r.1 : Int) == m) = l.findIdx? (fun r => (r.1 : Int) == m)
  | [], [], _ => rfl
  | _ :: _, _ :: _, h => by rw [List.findIdx?_cons, List.findIdx?_cons, h.1.1, RowsAre.find m h.2]
  | [], _ :: _, h => h.elim
  | _ :: _, [], h => h.elim
theorem RowsAre.one {F : Nat → Prop} {w : World} : ∀ {rs : List (Nat × Value)} {l : List (Nat × List Vl)}, RowsAre F w rs l → ∀ u ∈ rowCells rs, u.oneCell' = true
  | [], [], _, u, hu => by simp [rowCells] at hu
  | a :: r, _ :: _, h, u, hu => by
    have e : rowCells (a :: r) = .int .i64 (a.1 : Int) :: a.2 :: rowCells r := by simp [rowCells]
    rw [e] at hu
    rcases List.mem_cons.1 hu with rfl | hu
    · rfl
    · rcases List.mem_cons.1 hu with rfl | hu
      · obtain ⟨x, c, e⟩ := h.1.2.shape
        rw [e]; rfl
      · exact RowsAre.one h.2 u hu
  | [], _ :: _, h, _, _ => h.elim
  | _ :: _, [], h, _, _ => h.elim
/-- A table of the program's in memory. -/
def TbAt (F : Nat → Prop) (w : World) (b : Nat) (t : Tb) : Prop :=
  ∃ cv rv rs, Blk F w b #[.string t.name, cv, rv, .int .i64 (t.last : Int)] 233 ∧ RowF F w 228 2 cv t.cols.length (colCells t.cols) ∧ RowF F w 187 2 rv t.rows.length (rowCells rs) ∧ RowsAre F w rs t.rows
theorem TbAt.move {F F' : Nat → Prop} {w w' : World} {b : Nat} {t : Tb} (h : TbAt F w b t) (m : Mov F F' w w') : TbAt F' w' b t := by
  obtain ⟨cv, rv, rs, h1, h2, h3, h4⟩ := h
  exact ⟨cv, rv, rs, h1.move m, h2.move m, h3.move m, h4.move m⟩
theorem TbAt.lt {F : Nat → Prop} {w : World} {b : Nat} {t : Tb} (h : TbAt F w b t) : b < w.heap.size := by
  obtain ⟨cv, rv, rs, h1, _⟩ := h
  exact h1.lt
/-- A table's sizes. -/
structure TbOk (N : Nat) (t : Tb) : Prop where
  c1 : 1 ≤ t.cols.length
  c4 : t.cols.length ≤ 4
  r20 : t.rows.length ≤ 20
  last : t.last ≤ N
  ck : ∀ c ∈ t.cols, c.2 = 1 ∨ c.2 = 2
theorem TbAt.insert {F : Nat → Prop} {w : World} {b : Nat} {t : Tb} {N : Nat} (h : TbAt F w b t) (ok : TbOk N t) (hN : N ≤ 1000000000) (g cap : Nat) (vals : List ByteArray) (hv : StrAt w g vals) (hg : g < w.heap.size) (hl : vals.length ≤ 2000000) (hs : ∀ t ∈ vals, t.size ≤ 2000000) :
    Calls Tryz.prog 74 #[.pointer (some ⟨b, 0, none⟩), .slice (some ⟨g, 0, none⟩) vals.length cap] w fun e w' =>
      e = .returned (.tuple #[.int .i64 ((insertT t vals).1 : Int), .int .i64 ((insertT t vals).2.1 : Int)]) ∧ TbAt (Gro F w) w' b (insertT t vals).2.2 ∧ Stp F w w' := by
  obtain ⟨cv, rv, rs, h1, h2, h3, h4⟩ := h
  obtain ⟨gc, ccap, rfl, hcc, hFc, hcl⟩ := h2.got ok.c1
  have back : ∀ (c : Nat) (e : Ending) (w' : World), TInsNo c w e w' → e = .returned (.tuple #[.int .i64 0, .int .i64 (c : Int)]) ∧ TbAt (Gro F w) w' b t ∧ Stp F w w' := fun c e w' h => ⟨h.1, ⟨_, rv, rs, h1.move (Mov.gro h.2), h2.move (Mov.gro h.2), h3.move (Mov.gro h.2), h4.move (Mov.gro h.2)⟩, Stp.of h.2⟩
  have hla : t.last ≤ 1000000000 := by have := ok.last; omega
  have h20 := ok.r20
  have h4' := ok.c4
  unfold insertT
  by_cases hlen : vals.length = t.cols.length
  · rw [if_pos hlen]
    cases hm : allOf Trib.valOf vals with
    | none =>
      exact (tinsert_text b g cap gc ccap t.name rv t.last t.cols vals w h1.2 (by omega) hv hg hl hs (by rw [if_pos hlen, hm])).mono (fun e w' h => back 1 e w' h)
    | some l =>
      have H := tinsert_rest 0 b g cap gc ccap t.name rv t.last t.rows.length _ t.cols vals w h1.2 h2.1 h3.1 (Nat.zero_le _) (by omega) hla (by omega) hv hg hl hs l (by rw [if_pos hlen, hm]) _ rfl _ rfl
      simp only
      cases hty : typedE l t.cols with
      | false =>
        rw [hty] at H
        rw [if_neg (by decide)]
        exact H.mono (fun e w' h => back 5 e w' h)
      | true =>
        rw [hty] at H
        rw [if_pos rfl]
        by_cases hf : 20 ≤ t.rows.length
        · rw [decide_eq_true hf] at H
          rw [if_pos hf]
          exact H.mono (fun e w' h => back 7 e w' h)
        · rw [decide_eq_false hf] at H
          rw [if_neg hf]
          refine H.mono ?_
          rintro e w' ⟨rfl, k, rv', hk, hvr, htb, hrow, hown, hstp⟩
          have hF : ∀ q, q < w.heap.size → (q = b ∨ rv.ownBlock = some q) → F q := fun q _ hq => by
            rcases hq with rfl | hq
            · exact h1.1
            · exact h3.2 q hq
          have mvC := h2.past hstp h1.2 (by decide) h3 (by decide)
          have mvV : ∀ {x : Value} {n : Nat} {xs : List Value}, RowF F w 184 3 x n xs → RowF (Gro F w) w' 184 3 x n xs := fun {_ _ _} hx => hx.past hstp h1.2 (by decide) h3 (by decide)
          have mvR : ∀ {rs : List (Nat × Value)} {l : List (Nat × List Vl)}, RowsAre F w rs l → RowsAre (Gro F w) w' rs l := fun {rs l} => by
            induction rs generalizing l with
            | nil =>
              cases l with
              | nil => exact fun _ => trivial
              | cons => exact fun h => h.elim
            | cons a r ih =>
              cases l with
              | nil => exact fun h => h.elim
              | cons b s => exact fun h => ⟨⟨h.1.1, mvV h.1.2⟩, ih h.2⟩
          refine ⟨rfl, ⟨_, rv', rs ++ [(t.last + 1, .slice (some ⟨k, 0, none⟩) l.length l.length)], ⟨Gro.any h1.1, htb⟩, mvC, ⟨?_, ?_⟩, RowsAre.snoc rfl (RowF.new hvr (fun k hk => Gro.new hk)) (mvR h4)⟩, hstp.mono hF⟩
          · rw [rowCells_snoc]
            show w'.ownsRow 0 _ 2 rv' (t.rows ++ [_]).length _
            rw [List.length_append]
            exact hrow
          · intro q hq
            rcases hown q hq with h | h
            · exact Gro.any (h3.2 q h)
            · exact Gro.new h
  · rw [if_neg hlen]
    exact (tinsert_text b g cap gc ccap t.name rv t.last t.cols vals w h1.2 (by omega) hv hg hl hs (by rw [if_neg hlen])).mono (fun e w' h => back 1 e w' h)
end Go.Proofs.YtbkeflgafjnefaaGreatDoor
namespace Go.Proofs.YtbkeflgafjnefaaGreatDoor
open Go.RowKit
open Trib
theorem findIdx_lt {α : Type} {l : List α} {p : α → Bool} {i : Nat} (h : l.findIdx? p = some i) : i < l.length := by
  obtain ⟨h, _⟩ := List.findIdx?_eq_some_iff_getElem.1 h
  exact h
section
variable (F : Nat → Prop) (w : World) (b : Nat) (c0 c1 c3 : Value) (rv : Value) (rs : List (Nat × Value)) (m : Int) (h1 : Blk F w b #[c0, c1, rv, c3] 233) (h3 : RowF F w 187 2 rv rs.length (rowCells rs)) (hn : rs.length ≤ 1000)
include h1 h3 hn
set_option maxHeartbeats 4000000 in
set_option maxRecDepth 100000 in
theorem tdelete_none (hf : rs.findIdx? (fun r => (r.1 : Int) == m) = none) :
    Calls Tryz.prog 75 #[.pointer (some ⟨b, 0, none⟩), .int .i64 m] w fun e w' => e = .returned (.int .i64 8) ∧ Below w.heap.size w w' := by
  have c2 : w.cell? ⟨b, 2, none⟩ = some rv := h1.cell (i := 2) rfl
  have hblt := h1.lt
  have hbw : Below w.heap.size w (w.alloc (.cells #[.int .i64 m] 3)) := (Below.refl _ _).alloc (Nat.le_refl _) _
  have hloc := heap_alloc_new w (.cells #[.int .i64 m] 3)
  obtain ⟨ra, rcap, rfl⟩ := h3.shape
  have HI := hide (idxRow_any rs m w.heap.size ra rcap 0 (w.alloc (.cells #[.int .i64 m] 3)) (Blk.cell (F := fun _ => True) ⟨trivial, hloc⟩ (i := 0) rfl) (by simp) (h3.1.alloc _) hn)
  rw [hf, show idxN none = -1 from rfl] at HI
  have hne : ¬ b = w.heap.size := by omega
  clear hloc hf
  go_enter Tryz.func75, Tryz.ntmps75
  go_wp2_with (go_at_call 125; refine HI.out.mono ?_; rintro e w2 ⟨rfl, hb2⟩)
  go_ret
  exact ⟨rfl, hbw.trans (hb2.mono (by simp))⟩
set_option maxHeartbeats 4000000 in
set_option maxRecDepth 100000 in
theorem tdelete_some (h1c : ∀ u ∈ rowCells rs, u.oneCell' = true) (i : Nat) (hf : rs.findIdx? (fun r => (r.1 : Int) == m) = some i) :
    Calls Tryz.prog 75 #[.pointer (some ⟨b, 0, none⟩), .int .i64 m] w fun e w' => e = .returned (.int .i64 0) ∧ ∃ rv', Blk (Gro F w) w' b #[c0, c1, rv', c3] 233 ∧ RowF (Gro F w) w' 187 2 rv' (rs.eraseIdx i).length (rowCells (rs.eraseIdx i)) ∧ Stp (fun q => q = b ∨ rv.ownBlock = some q) w w' := by
  have hi := findIdx_lt hf
  have c2 : w.cell? ⟨b, 2, none⟩ = some rv := h1.cell (i := 2) rfl
  have hblt := h1.lt
  have hbw : Below w.heap.size w (w.alloc (.cells #[.int .i64 m] 3)) := (Below.refl _ _).alloc (Nat.le_refl _) _
  have hloc := heap_alloc_new w (.cells #[.int .i64 m] 3)
  obtain ⟨g, rcap, rfl, hcap, hFg, hgl⟩ := h3.got (by omega)
  have HI := hide (idxRow_any rs m w.heap.size (some ⟨g, 0, none⟩) rcap 0 (w.alloc (.cells #[.int .i64 m] 3)) (Blk.cell (F := fun _ => True) ⟨trivial, hloc⟩ (i := 0) rfl) (by simp) (h3.1.alloc _) hn)
  rw [hf, show idxN (some i) = (i : Int) from rfl] at HI
  have hne : ¬ b = w.heap.size := by omega
  have hwr : IntKind.i64.wrap ((i : Int) + 1) = (i : Int) + 1 := by rw [IntKind.wrap_i64]; omega
  have hgb : g ≠ b := fun e => h3.apart h1.2 (by decide) (by rw [e]; rfl)
  clear hloc hf
  have HB : Hid (∀ w2, Below (w.alloc (.cells #[.int .i64 m] 3)).heap.size (w.alloc (.cells #[.int .i64 m] 3)) w2 → Below w.heap.size w w2) := hide (fun w2 hb2 => hbw.trans (hb2.mono (by simp)))
  have hi0 : (0 : Int) ≤ (i : Int) := by omega
  clear hbw
  go_enter Tryz.func75, Tryz.ntmps75
  go_upto_region 2 with (go_at_call 125; refine HI.out.mono ?_; rintro e w2 ⟨rfl, hb2⟩)
  have hb := HB.out w2 hb2
  have hB2 := h1.move (Mov.gro hb)
  have hR2 := h3.move (Mov.gro hb)
  have d2 : w2.cell? ⟨b, 2, none⟩ = some (.slice (some ⟨g, 0, none⟩) rs.length rcap) := hB2.cell (i := 2) rfl
  have HS := hide (sdel_any 0 g rcap rs.length i (rowCells rs) w2 hR2.1 h1c hi hn)
  have hbz := hb.size
  have HW : Hid (∀ w3, w2.grownBy w3 (some g) → w3.heap[b]? = some (.cells #[c0, c1, .slice (some ⟨g, 0, none⟩) rs.length rcap, c3] 233 (0, 0))) := hide (fun w3 hg3 => (hg3.block b (by omega) (fun e => hgb (Option.some.inj e).symm)).trans hB2.2)
  clear hb2 HI HB c2 hcap
  go_wp2_with (go_at_call 127; refine HS.out.mono ?_; rintro e w3 ⟨rfl, hrow3, hgrow3⟩; have hb3 := HW.out w3 hgrow3; have d3 := Blk.cell (F := fun _ => True) ⟨trivial, hb3⟩ (i := 2) rfl; have f3 := Blk.free (F := fun _ => True) ⟨trivial, hb3⟩ (i := 2))
  go_ret
  have hlen : (rs.eraseIdx i).length = rs.length - 1 := by rw [List.length_eraseIdx, if_pos hi]
  have hB3 : Blk F w3 b #[c0, c1, .slice (some ⟨g, 0, none⟩) rs.length rcap, c3] 233 := ⟨h1.1, hb3⟩
  refine ⟨rfl, _, ⟨Gro.any h1.1, (hB3.set 2 _).2⟩, ⟨?_, fun k hk => ?_⟩, ?_⟩
  · rw [hlen, ← rowCells_erase]
    exact (RowF.set (F := fun _ => True) ⟨hrow3, fun _ _ => trivial⟩ (by simp [Value.ownBlock, hgb]) 2 _).1
  · obtain rfl : g = k := by simpa [Value.ownBlock] using hk
    exact Gro.any hFg
  · exact (((Stp.of hb).andThen (Stp.grown hgrow3 (fun k e => .inr e)))).andThen (Stp.set b 2 _ (.inl rfl))
end
theorem TbAt.delete {F : Nat → Prop} {w : World} {b : Nat} {t : Tb} {N : Nat} (h : TbAt F w b t) (ok : TbOk N t) (m : Int) :
    Calls Tryz.prog 75 #[.pointer (some ⟨b, 0, none⟩), .int .i64 m] w fun e w' => e = .returned (.int .i64 ((deleteT t m).1 : Int)) ∧ TbAt (Gro F w) w' b (deleteT t m).2 ∧ Stp F w w' := by
  obtain ⟨cv, rv, rs, h1, h2, h3, h4⟩ := h
  have hlen := h4.len
  have h20 := ok.r20
  have hfe := h4.find m
  rw [← hlen] at h3
  unfold deleteT
  cases hf : t.rows.findIdx? (fun r => (r.1 : Int) == m) with
  | none =>
    refine (tdelete_none F w b _ _ _ rv rs m h1 h3 (by omega) (hfe.trans hf)).mono ?_
    rintro e w' ⟨rfl, hb⟩
    exact ⟨rfl, ⟨cv, rv, rs, h1.move (Mov.gro hb), h2.move (Mov.gro hb), hlen ▸ h3.move (Mov.gro hb), h4.move (Mov.gro hb)⟩, Stp.of hb⟩
  | some i =>
    refine (tdelete_some F w b _ _ _ rv rs m h1 h3 (by omega) h4.one i (hfe.trans hf)).mono ?_
    rintro e w' ⟨rfl, rv', hB, hR, hstp⟩
    have hF : ∀ q, q < w.heap.size → (q = b ∨ rv.ownBlock = some q) → F q := fun q _ hq => by
      rcases hq with rfl | hq
      · exact h1.1
      · exact h3.2 q hq
    have mvR : ∀ {rs : List (Nat × Value)} {l : List (Nat × List Vl)}, RowsAre F w rs l → RowsAre (Gro F w) w' rs l := fun {rs l} => by
      induction rs generalizing l with
      | nil =>
        cases l with
        | nil => exact fun _ => trivial
        | cons => exact fun h => h.elim
      | cons a r ih =>
        cases l with
        | nil => exact fun h => h.elim
        | cons b s => exact fun h => ⟨⟨h.1.1, h.1.2.past hstp h1.2 (by decide) h3 (by decide)⟩, ih h.2⟩
    have hl2 := (h4.erase i).len
    exact ⟨rfl, ⟨cv, rv', rs.eraseIdx i, hB, h2.past hstp h1.2 (by decide) h3 (by decide), hl2 ▸ hR, mvR (h4.erase i)⟩, hstp.mono hF⟩
end Go.Proofs.YtbkeflgafjnefaaGreatDoor
namespace Go.Proofs.YtbkeflgafjnefaaGreatDoor
open Go.RowKit
open Trib
/-- The blocks of one colour. -/
def colr (F : Nat → Prop) (c : Nat → Nat) (i : Nat) (k : Nat) : Prop := F k ∧ c k = i
/-- New blocks get the colour i. -/
def cNew (c : Nat → Nat) (w : World) (i : Nat) (k : Nat) : Nat := if k < w.heap.size then c k else i
theorem recol_other {F : Nat → Prop} {c : Nat → Nat} {i j : Nat} {w w' : World} (hs : Stp (colr F c i) w w') (hj : j ≠ i) : Mov (colr F c j) (colr (Gro F w) (cNew c w i) j) w w' := fun k hk hF =>
  ⟨⟨Gro.old hk hF.1, by unfold cNew; rw [if_pos hk]; exact hF.2⟩, hs.block k hk (fun h => hj (hF.2.symm.trans h.2))⟩
theorem recol_same {F : Nat → Prop} {c : Nat → Nat} {i : Nat} {w : World} {k : Nat} (h : Gro (colr F c i) w k) : colr (Gro F w) (cNew c w i) i k := by
  rcases h with ⟨h1, h2⟩ | h
  · exact ⟨Gro.old h1 h2.1, by unfold cNew; rw [if_pos h1]; exact h2.2⟩
  · exact ⟨Gro.new h, by unfold cNew; rw [if_neg (by omega)]⟩
theorem colr_gro {F : Nat → Prop} {c : Nat → Nat} {i : Nat} {w : World} {k : Nat} (h : colr F c i k) : colr (Gro F w) c i k := ⟨Gro.any h.1, h.2⟩
theorem colr_move {F F' : Nat → Prop} {w w' : World} (m : Mov F F' w w') (c : Nat → Nat) (i : Nat) : Mov (colr F c i) (colr F' c i) w w' := fun k hk hF => ⟨⟨(m k hk hF.1).1, hF.2⟩, (m k hk hF.1).2⟩
/-- What an engine holds besides its tables and its clock. -/
structure Ex where
  a : Value
  b : Value
  c : Value
  d : Value
  e : Value
/-- The program's engine in memory. -/
def EngAt (F : Nat → Prop) (w : World) (b : Nat) (ex : Ex) (g : Eng) : Prop :=
  ∃ (c : Nat → Nat) (tv : Value) (bs : List Nat), bs.length = g.tables.length ∧ Blk (colr F c 0) w b #[tv, ex.a, ex.b, ex.c, ex.d, ex.e, .int .i64 g.clock] 118 ∧ RowF (colr F c 0) w 136 1 tv bs.length (ptrs bs) ∧ ∀ i (h : i < bs.length) (h2 : i < g.tables.length), TbAt (colr F c (i + 1)) w bs[i] g.tables[i]
theorem EngAt.move {F F' : Nat → Prop} {w w' : World} {b : Nat} {ex : Ex} {g : Eng} (h : EngAt F w b ex g) (m : Mov F F' w w') : EngAt F' w' b ex g := by
  obtain ⟨c, tv, bs, h0, h1, h2, h3⟩ := h
  exact ⟨c, tv, bs, h0, h1.move (colr_move m c 0), h2.move (colr_move m c 0), fun i h h' => (h3 i h h').move (colr_move m c (i + 1))⟩
/-- An engine's sizes. -/
structure EngOk (N : Nat) (g : Eng) : Prop where
  six : g.tables.length ≤ 6
  tabs : ∀ t ∈ g.tables, TbOk N t
  clock0 : 0 ≤ g.clock
  clock1 : g.clock ≤ 1000000000000
theorem names_first (l : List Tb) (name : ByteArray) : firstB (l.map (·.name)) name = findT l name := by
  unfold firstB findT
  rw [List.findIdx?_map]
  rfl
theorem TbAt.name {F : Nat → Prop} {w : World} {b : Nat} {t : Tb} (h : TbAt F w b t) : w.cell? ⟨b, 0, none⟩ = some (.string t.name) := by
  obtain ⟨cv, rv, rs, h1, _⟩ := h
  exact h1.cell (i := 0) rfl
/-- The tables of an engine are found by their names. -/
theorem EngAt.find {F : Nat → Prop} {w : World} {g : Eng} {c : Nat → Nat} {tv : Value} {bs : List Nat} (h0 : bs.length = g.tables.length) (h2 : RowF (colr F c 0) w 136 1 tv bs.length (ptrs bs)) (h3 : ∀ i (h : i < bs.length) (h2 : i < g.tables.length), TbAt (colr F c (i + 1)) w bs[i] g.tables[i]) (h6 : g.tables.length ≤ 6) (name : ByteArray) :
    Calls Tryz.prog 70 #[tv, .string name] w fun e w' => e = .returned (atB bs (findT g.tables name)) ∧ w = w' := by
  rw [← names_first]
  exact find_any tv bs (g.tables.map (·.name)) name 0 w h2.1 (by rw [List.length_map, h0]) (by omega) (fun i h h' => by
    rw [List.length_map] at h'
    rw [(h3 i h h').name]
    simp)
theorem findT_lt {l : List Tb} {name : ByteArray} {i : Nat} (h : findT l name = some i) : i < l.length := findIdx_lt h
/-- One table of an engine is turned. -/
theorem EngAt.turn {F : Nat → Prop} {w w' : World} {b : Nat} {ex : Ex} {g : Eng} {c : Nat → Nat} {tv : Value} {bs : List Nat} (h0 : bs.length = g.tables.length) (h1 : Blk (colr F c 0) w b #[tv, ex.a, ex.b, ex.c, ex.d, ex.e, .int .i64 g.clock] 118) (h2 : RowF (colr F c 0) w 136 1 tv bs.length (ptrs bs)) (h3 : ∀ i (h : i < bs.length) (h2 : i < g.tables.length), TbAt (colr F c (i + 1)) w bs[i] g.tables[i])
    (i : Nat) (hi : i < bs.length) (t' : Tb) (ht : TbAt (Gro (colr F c (i + 1)) w) w' bs[i] t') (hs : Stp (colr F c (i + 1)) w w') : EngAt (Gro F w) w' b ex { g with tables := g.tables.set i t' } ∧ Stp F w w' := by
  refine ⟨⟨cNew c w (i + 1), tv, bs, by rw [List.length_set]; exact h0, h1.move (recol_other hs (by omega)), h2.move (recol_other hs (by omega)), fun j h h' => ?_⟩, hs.mono (fun k _ h => h.1)⟩
  have hjl : j < g.tables.length := by simpa using h'
  by_cases e : j = i
  · subst e
    have : (g.tables.set j t')[j]'(by rw [List.length_set]; exact hjl) = t' := List.getElem_set_self _
    show TbAt _ _ _ ((g.tables.set j t')[j]'(by rw [List.length_set]; exact hjl))
    rw [this]
    refine ht.move (Mov.to (fun k _ hk => recol_same hk))
  · have : (g.tables.set i t')[j]'(by rw [List.length_set]; exact hjl) = g.tables[j] := List.getElem_set_ne (by omega) _
    show TbAt _ _ _ ((g.tables.set i t')[j]'(by rw [List.length_set]; exact hjl))
    rw [this]
    exact (h3 j h hjl).move (recol_other hs (by omega))
theorem atB_some {bs : List Nat} {i : Nat} (h : i < bs.length) : atB bs (some i) = .pointer (some ⟨bs[i], 0, none⟩) := by
  unfold atB
  simp [List.getD, h]
theorem insertE_none {g : Eng} {name : ByteArray} {vals : List ByteArray} (hf : findT g.tables name = none) : insertE g name vals = (0, 8, g) := by unfold insertE; rw [hf]
theorem insertE_at {g : Eng} {name : ByteArray} {vals : List ByteArray} {i : Nat} (hf : findT g.tables name = some i) (hi : i < g.tables.length) : insertE g name vals = ((insertT g.tables[i] vals).1, (insertT g.tables[i] vals).2.1, { g with tables := g.tables.set i (insertT g.tables[i] vals).2.2 }) := by
  unfold insertE; rw [hf]; simp only [List.getElem?_eq_getElem hi]
theorem deleteE_none {g : Eng} {name : ByteArray} {m : Int} (hf : findT g.tables name = none) : deleteE g name m = (8, g) := by unfold deleteE; rw [hf]
theorem deleteE_at {g : Eng} {name : ByteArray} {m : Int} {i : Nat} (hf : findT g.tables name = some i) (hi : i < g.tables.length) : deleteE g name m = ((deleteT g.tables[i] m).1, { g with tables := g.tables.set i (deleteT g.tables[i] m).2 }) := by
  unfold deleteE; rw [hf]; simp only [List.getElem?_eq_getElem hi]
set_option maxHeartbeats 4000000 in
set_option maxRecDepth 100000 in
theorem einsert_any {F : Nat → Prop} {w : World} {b : Nat} {ex : Ex} {g : Eng} {N : Nat} (h : EngAt F w b ex g) (ok : EngOk N g) (hN : N ≤ 1000000000) (name : ByteArray) (q cap : Nat) (vals : List ByteArray) (hv : StrAt w q vals) (hq : q < w.heap.size) (hl : vals.length ≤ 2000000) (hs : ∀ t ∈ vals, t.size ≤ 2000000) :
    Calls Tryz.prog 39 #[.pointer (some ⟨b, 0, none⟩), .string name, .slice (some ⟨q, 0, none⟩) vals.length cap] w fun e w' =>
      e = .returned (.tuple #[.int .i64 ((insertE g name vals).1 : Int), .int .i64 ((insertE g name vals).2.1 : Int)]) ∧ EngAt (Gro F w) w' b ex (insertE g name vals).2.2 ∧ Stp F w w' := by
  have hE := h
  obtain ⟨c, tv, bs, h0, h1, h2, h3⟩ := h
  have HF := hide (EngAt.find h0 h2 h3 ok.six name)
  have c0 : w.cell? ⟨b, 0, none⟩ = some tv := h1.cell (i := 0) rfl
  cases hf : findT g.tables name with
  | none =>
    rw [insertE_none hf]
    rw [hf, show atB bs none = .pointer none from rfl] at HF
    have HE := hide (hE.move (Mov.gro (Below.refl w.heap.size w)))
    clear hE h1 h2 h3 hf
    go_enter Tryz.func39, Tryz.ntmps39
    go_wp2_with (go_at_call 70; refine HF.out.mono ?_; rintro e w2 ⟨rfl, rfl⟩)
    go_ret2
    exact ⟨rfl, HE.out, Stp.refl _ _⟩
  | some i =>
    have hi := findT_lt hf
    have hib : i < bs.length := by omega
    have ht := h3 i hib hi
    rw [hf, atB_some hib] at HF
    rw [insertE_at hf hi]
    have HI := hide (ht.insert (ok.tabs _ (List.getElem_mem hi)) hN q cap vals hv hq hl hs)
    have HT : Hid (∀ w' t', TbAt (Gro (colr F c (i + 1)) w) w' bs[i] t' → Stp (colr F c (i + 1)) w w' → EngAt (Gro F w) w' b ex { g with tables := g.tables.set i t' } ∧ Stp F w w') := hide (fun w' t' a b' => EngAt.turn h0 h1 h2 h3 i hib t' a b')
    generalize insertT g.tables[i] vals = R at *
    clear hE h1 h2 h3 hf ht hs hv
    go_enter Tryz.func39, Tryz.ntmps39
    go_wp2_with (first | (go_at_call 70; refine HF.out.mono ?_; rintro e w2 ⟨rfl, rfl⟩) | (go_at_call 74; refine HI.out.mono ?_; rintro e w2 ⟨rfl, ht2, hs2⟩))
    go_ret2
    exact ⟨rfl, HT.out w2 _ ht2 hs2⟩
set_option maxHeartbeats 4000000 in
set_option maxRecDepth 100000 in
theorem edelete_any {F : Nat → Prop} {w : World} {b : Nat} {ex : Ex} {g : Eng} {N : Nat} (h : EngAt F w b ex g) (ok : EngOk N g) (name : ByteArray) (m : Int) :
    Calls Tryz.prog 40 #[.pointer (some ⟨b, 0, none⟩), .string name, .int .i64 m] w fun e w' =>
      e = .returned (.int .i64 ((deleteE g name m).1 : Int)) ∧ EngAt (Gro F w) w' b ex (deleteE g name m).2 ∧ Stp F w w' := by
  have hE := h
  obtain ⟨c, tv, bs, h0, h1, h2, h3⟩ := h
  have HF := hide (EngAt.find h0 h2 h3 ok.six name)
  have c0 : w.cell? ⟨b, 0, none⟩ = some tv := h1.cell (i := 0) rfl
  cases hf : findT g.tables name with
  | none =>
    rw [deleteE_none hf]
    rw [hf, show atB bs none = .pointer none from rfl] at HF
    have HE := hide (hE.move (Mov.gro (Below.refl w.heap.size w)))
    clear hE h1 h2 h3 hf
    go_enter Tryz.func40, Tryz.ntmps40
    go_wp2_with (go_at_call 70; refine HF.out.mono ?_; rintro e w2 ⟨rfl, rfl⟩)
    go_ret
    exact ⟨rfl, HE.out, Stp.refl _ _⟩
  | some i =>
    have hi := findT_lt hf
    have hib : i < bs.length := by omega
    have ht := h3 i hib hi
    rw [hf, atB_some hib] at HF
    rw [deleteE_at hf hi]
    have HI := hide (ht.delete (ok.tabs _ (List.getElem_mem hi)) m)
    have HT : Hid (∀ w' t', TbAt (Gro (colr F c (i + 1)) w) w' bs[i] t' → Stp (colr F c (i + 1)) w w' → EngAt (Gro F w) w' b ex { g with tables := g.tables.set i t' } ∧ Stp F w w') := hide (fun w' t' a b' => EngAt.turn h0 h1 h2 h3 i hib t' a b')
    generalize deleteT g.tables[i] m = R at *
    clear hE h1 h2 h3 hf ht
    go_enter Tryz.func40, Tryz.ntmps40
    go_wp2_with (first | (go_at_call 70; refine HF.out.mono ?_; rintro e w2 ⟨rfl, rfl⟩) | (go_at_call 75; refine HI.out.mono ?_; rintro e w2 ⟨rfl, ht2, hs2⟩))
    go_ret
    exact ⟨rfl, HT.out w2 _ ht2 hs2⟩
end Go.Proofs.YtbkeflgafjnefaaGreatDoor
namespace Go.Proofs.YtbkeflgafjnefaaGreatDoor
open Go.RowKit
open Trib
theorem tickE_yes {g : Eng} {t : Int} (h : g.clock < t ∧ t ≤ 1000000000000) : tickE g t = (t, { g with clock := t }) := by unfold tickE; rw [if_pos h]
theorem tickE_no {g : Eng} {t : Int} (h : ¬ (g.clock < t ∧ t ≤ 1000000000000)) : tickE g t = (g.clock, g) := by unfold tickE; rw [if_neg h]
set_option maxHeartbeats 4000000 in
theorem etick_any {F : Nat → Prop} {w : World} {b : Nat} {ex : Ex} {g : Eng} (h : EngAt F w b ex g) (t : Int) :
    Calls Tryz.prog 29 #[.pointer (some ⟨b, 0, none⟩), .int .i64 t] w fun e w' => e = .returned (.int .i64 (tickE g t).1) ∧ EngAt (Gro F w) w' b ex (tickE g t).2 ∧ Stp F w w' := by
  have hE := h
  obtain ⟨c, tv, bs, h0, h1, h2, h3⟩ := h
  have c6 : w.cell? ⟨b, 6, none⟩ = some (.int .i64 g.clock) := h1.cell (i := 6) rfl
  have f6 : w.frozen? ⟨b, 6, none⟩ = false := h1.free
  by_cases ht : g.clock < t ∧ t ≤ 1000000000000
  · rw [tickE_yes ht]
    have ha := ht.1
    have hb := ht.2
    have hset := h1.set 6 (.int .i64 t)
    have hap : ∀ {e : TypeId} {size n : Nat} {v : Value} {xs : List Value}, RowF (colr F c 0) w e size v n xs → 118 ≠ e → v.ownBlock ≠ some b := fun hr hT => hr.apart h1.2 hT
    have hst : Stp (colr F c 0) w (w.setCell ⟨b, 6, none⟩ (.int .i64 t)) := Stp.set b 6 _ h1.1
    have HE : Hid (EngAt (Gro F w) (w.setCell ⟨b, 6, none⟩ (.int .i64 t)) b ex { g with clock := t } ∧ Stp F w (w.setCell ⟨b, 6, none⟩ (.int .i64 t))) := hide ⟨⟨c, tv, bs, h0, ⟨⟨Gro.any h1.1.1, h1.1.2⟩, hset.2⟩, ⟨(h2.set (hap h2 (by decide)) 6 _).1, fun k hk => ⟨Gro.any (h2.2 k hk).1, (h2.2 k hk).2⟩⟩, fun i h h' => (h3 i h h').move (fun k hk hF => ⟨⟨Gro.old hk hF.1, hF.2⟩, hst.block k hk (fun hc => by have h1 := hF.2; have h2 := hc.2; omega)⟩)⟩, hst.mono (fun _ _ h => h.1)⟩
    have d6 : (w.setCell ⟨b, 6, none⟩ (.int .i64 t)).cell? ⟨b, 6, none⟩ = some (.int .i64 t) := hset.cell (i := 6) rfl
    clear hE h1 h2 h3 ht hset hap hst
    go_enter Tryz.func29, Tryz.ntmps29
    go_wp2_with fail
    go_ret
    exact ⟨rfl, HE.out⟩
  · rw [tickE_no ht]
    have HE := hide (hE.move (Mov.gro (Below.refl w.heap.size w)))
    clear hE h1 h2 h3
    by_cases h2 : g.clock < t
    · have h3 : (1000000000000 : Int) < t := by omega
      clear ht
      go_enter Tryz.func29, Tryz.ntmps29
      go_wp2_with fail
      go_ret
      exact ⟨rfl, HE.out, Stp.refl _ _⟩
    · have h3 : t ≤ g.clock := by omega
      clear ht
      go_enter Tryz.func29, Tryz.ntmps29
      go_wp2_with fail
      go_ret
      exact ⟨rfl, HE.out, Stp.refl _ _⟩
def ex0 : Ex := ⟨.slice none 0 0, .slice none 0 0, .int .i64 0, .slice none 0 0, .int .i64 0⟩
def eng0 : Eng := ⟨[], 0⟩
set_option maxHeartbeats 1000000 in
theorem enew_any (w : World) : Calls Tryz.prog 37 #[] w fun e w' => ∃ k, w.heap.size ≤ k ∧ e = .returned (.pointer (some ⟨k, 0, none⟩)) ∧ EngAt (fun q => w.heap.size ≤ q) w' k ex0 eng0 ∧ Below w.heap.size w w' := by
  go_enter Tryz.func37, Tryz.ntmps37
  go_wp2_with fail
  go_ret
  refine ⟨w.heap.size, Nat.le_refl _, rfl, ⟨fun _ => 0, .slice none 0 0, [], rfl, ⟨⟨Nat.le_refl _, rfl⟩, heap_alloc_new w _⟩, RowF.nil _ _ _ _, fun i h => absurd h (Nat.not_lt_zero _)⟩, (Below.refl _ _).alloc (Nat.le_refl _) _⟩
theorem beq_lit (s : ByteArray) (l : List UInt8) : (s.toList == l) = (s == bytesL l) := by
  cases h : s == bytesL l with
  | true =>
    rw [(beqB _ _).1 h, ByteArray.toList_eq, bytesL_list]; exact beq_self_eq_true l
  | false =>
    rw [beq_eq_false_iff_ne]
    intro e
    have : s = bytesL l := toList_inj (by rw [e, ByteArray.toList_eq, bytesL_list])
    rw [(beqB _ _).2 this] at h
    cases h
theorem hasTable_any (s : ByteArray) (w : World) : Calls Tryz.prog 71 #[.string s] w fun e w' => e = .returned (.bool (s == logB || s == touchB)) ∧ w = w' := by
  have g1 : (s.toList == [108, 111, 103]) = (s == logB) := beq_lit _ _
  have g2 : (s.toList == [116, 111, 117, 99, 104]) = (s == touchB) := beq_lit _ _
  generalize (s == logB) = x at *
  generalize (s == touchB) = y at *
  cases x
  · cases y
    · go_enter Tryz.func71, Tryz.ntmps71
      go_wp2_with fail
      go_ret
      exact ⟨rfl, rfl⟩
    · go_enter Tryz.func71, Tryz.ntmps71
      go_wp2_with fail
      go_ret
      exact ⟨rfl, rfl⟩
  · go_enter Tryz.func71, Tryz.ntmps71
    go_wp2_with fail
    go_ret
    exact ⟨rfl, rfl⟩
end Go.Proofs.YtbkeflgafjnefaaGreatDoor
namespace Go.Proofs.YtbkeflgafjnefaaGreatDoor
open Go.RowKit
open Trib
theorem Mov.stay {F : Nat → Prop} {w w' : World} (h : Below w.heap.size w w') : Mov F F w w' := fun k hk hF => ⟨hF, h.block k hk⟩
theorem any_find (l : List Tb) (name : ByteArray) : l.any (fun t => t.name == name) = (findT l name).isSome := by
  unfold findT; rw [List.findIdx?_isSome]
theorem createE_text {g : Eng} {name cols : ByteArray} (h : nameB name.data.toList = false ∨ colsOf cols.data.toList = none) : createE g name cols = (1, g) := by
  unfold createE
  rcases h with h | h
  · rw [h, if_neg (by decide)]
  · rw [h]; split <;> rfl
theorem createE_name {g : Eng} {name cols : ByteArray} {l : List (ByteArray × Nat)} (h : nameB name.data.toList = true) (hc : colsOf cols.data.toList = some l) (h3 : ((findT g.tables name).isSome || name == logB || name == touchB || twins l) = true) : createE g name cols = (3, g) := by
  unfold createE
  rw [h, if_pos rfl, hc]
  simp only
  rw [any_find, h3, if_pos rfl]
theorem createE_full {g : Eng} {name cols : ByteArray} {l : List (ByteArray × Nat)} (h : nameB name.data.toList = true) (hc : colsOf cols.data.toList = some l) (h3 : ((findT g.tables name).isSome || name == logB || name == touchB || twins l) = false) (h6 : 6 ≤ g.tables.length) : createE g name cols = (7, g) := by
  unfold createE
  rw [h, if_pos rfl, hc]
  simp only
  rw [any_find, h3, if_neg (by decide), if_pos h6]
theorem createE_new {g : Eng} {name cols : ByteArray} {l : List (ByteArray × Nat)} (h : nameB name.data.toList = true) (hc : colsOf cols.data.toList = some l) (h3 : ((findT g.tables name).isSome || name == logB || name == touchB || twins l) = false) (h6 : ¬ 6 ≤ g.tables.length) : createE g name cols = (0, { g with tables := g.tables ++ [⟨name, l, [], 0⟩] }) := by
  unfold createE
  rw [h, if_pos rfl, hc]
  simp only
  rw [any_find, h3, if_neg (by decide), if_neg h6]
theorem colsOf_len {s : List UInt8} {l : List (ByteArray × Nat)} (h : colsOf s = some l) : 1 ≤ l.length ∧ l.length ≤ 4 := by
  unfold colsOf at h
  split at h
  · cases h
  · rename_i h4
    rw [allOf_len _ _ _ h]
    obtain ⟨a, t, e⟩ := split_ne 44 s
    rw [e] at h4 ⊢
    simp at h4 ⊢
    omega
section
variable {F : Nat → Prop} {w : World} {b : Nat} {ex : Ex} {g : Eng} {N : Nat} (h : EngAt F w b ex g) (ok : EngOk N g) (hg : Glob w) (name cols : ByteArray) (hs1 : name.size ≤ 2000000) (hs2 : cols.size ≤ 2000000)
include h ok hg hs1 hs2
def CreP (F : Nat → Prop) (w : World) (b : Nat) (ex : Ex) (r : Nat × Eng) (e : Ending) (w' : World) : Prop := e = .returned (.int .i64 (r.1 : Int)) ∧ EngAt (Gro F w) w' b ex r.2 ∧ Stp F w w'
omit ok hs1 in
set_option maxHeartbeats 4000000 in
set_option maxRecDepth 100000 in
theorem ecreate_text1 (hc : colsOf cols.data.toList = none) : Calls Tryz.prog 38 #[.pointer (some ⟨b, 0, none⟩), .string name, .string cols] w (CreP F w b ex (createE g name cols)) := by
  rw [createE_text (.inr hc)]
  have HR := hide (readColumns_any cols w hg hs2)
  unfold ColsPost at HR
  rw [hc] at HR
  have HE : Hid (∀ w', Below w.heap.size w w' → CreP F w b ex (1, g) (.returned (.int .i64 1)) w') := hide (fun w' hb => ⟨rfl, h.move (Mov.gro hb), Stp.of hb⟩)
  clear h hg hc
  go_enter Tryz.func38, Tryz.ntmps38
  go_wp2_with (go_at_call 68; refine HR.out.mono ?_; rintro e w2 ⟨rfl, hb2⟩)
  go_ret
  exact HE.out w2 hb2
omit ok in
set_option maxHeartbeats 4000000 in
set_option maxRecDepth 100000 in
theorem ecreate_text2 (l : List (ByteArray × Nat)) (hc : colsOf cols.data.toList = some l) (hn : nameB name.data.toList = false) : Calls Tryz.prog 38 #[.pointer (some ⟨b, 0, none⟩), .string name, .string cols] w (CreP F w b ex (createE g name cols)) := by
  rw [createE_text (.inl hn)]
  have HR := hide (readColumns_any cols w hg hs2)
  unfold ColsPost at HR
  rw [hc] at HR
  have HE : Hid (∀ w', Below w.heap.size w w' → CreP F w b ex (1, g) (.returned (.int .i64 1)) w') := hide (fun w' hb => ⟨rfl, h.move (Mov.gro hb), Stp.of hb⟩)
  have HN : Hid (∀ w', Below w.heap.size w w' → Calls Tryz.prog 69 #[.string name] w' fun e w2 => e = .returned (.bool false) ∧ w' = w2) := hide (fun w' hb => by
    have := isName_any name w' (hg.below hb hg.big) hs1
    rw [hn] at this
    exact this)
  clear h hg hc hn
  go_enter Tryz.func38, Tryz.ntmps38
  go_wp2_with (first | (go_at_call 68; refine HR.out.mono ?_; rintro e w2 ⟨⟨v, rfl, hrow2⟩, hb2⟩) | (go_at_call 69; refine (HN.out w2 hb2).mono ?_; rintro e w3 ⟨rfl, rfl⟩))
  go_ret
  exact HE.out w2 hb2
set_option maxHeartbeats 4000000 in
set_option maxRecDepth 100000 in
theorem ecreate_name (l : List (ByteArray × Nat)) (hc : colsOf cols.data.toList = some l) (hn : nameB name.data.toList = true) (h3 : ((findT g.tables name).isSome || name == logB || name == touchB || twins l) = true) : Calls Tryz.prog 38 #[.pointer (some ⟨b, 0, none⟩), .string name, .string cols] w (CreP F w b ex (createE g name cols)) := by
  rw [createE_name hn hc h3]
  have hl := colsOf_len hc
  have HR := hide (readColumns_any cols w hg hs2)
  unfold ColsPost at HR
  rw [hc] at HR
  have HE : Hid (∀ w', Below w.heap.size w w' → CreP F w b ex (3, g) (.returned (.int .i64 3)) w') := hide (fun w' hb => ⟨rfl, h.move (Mov.gro hb), Stp.of hb⟩)
  have HN : Hid (∀ w', Below w.heap.size w w' → Calls Tryz.prog 69 #[.string name] w' fun e w2 => e = .returned (.bool true) ∧ w' = w2) := hide (fun w' hb => by
    have := isName_any name w' (hg.below hb hg.big) hs1
    rw [hn] at this
    exact this)
  obtain ⟨c, tv, bs, e0, e1, e2, e3⟩ := h
  have HF : Hid (∀ w', Below w.heap.size w w' → w'.cell? ⟨b, 0, none⟩ = some tv ∧ Calls Tryz.prog 70 #[tv, .string name] w' fun e w2 => e = .returned (atB bs (findT g.tables name)) ∧ w' = w2) := hide (fun w' hb => ⟨(e1.move (Mov.stay hb)).cell (i := 0) rfl, EngAt.find e0 (e2.move (Mov.stay hb)) (fun i h h' => (e3 i h h').move (Mov.stay hb)) ok.six name⟩)
  have HH := hide (hasTable_any name)
  have HL : Hid (∀ i, findT g.tables name = some i → i < g.tables.length) := hide (fun i hi => findT_lt hi)
  clear hg hc hn e1 e2 e3
  cases hf : findT g.tables name with
  | some i =>
    have hib : i < bs.length := by have := HL.out i hf; omega
    rw [hf, atB_some hib] at HF
    clear hf h3 HH HL
    go_enter Tryz.func38, Tryz.ntmps38
    go_wp2_with (first | (go_at_call 68; refine HR.out.mono ?_; rintro e w2 ⟨⟨v, rfl, hrow2⟩, hb2⟩; have c0 := (HF.out w2 hb2).1) | (go_at_call 69; refine (HN.out w2 hb2).mono ?_; rintro e w3 ⟨rfl, rfl⟩) | (go_at_call 70; refine (HF.out w2 hb2).2.mono ?_; rintro e w3 ⟨rfl, rfl⟩))
    go_ret
    exact HE.out w2 hb2
  | none =>
    rw [hf] at HF h3
    rw [show atB bs none = .pointer none from rfl] at HF
    simp only [Option.isSome_none, Bool.false_or] at h3
    generalize (name == logB || name == touchB) = x at *
    clear hf HL
    cases x
    · have ht : twins l = true := by simpa using h3
      clear h3
      have HT : Hid (∀ (w' : World) (v : Value), w'.ownsRow w.heap.size 228 2 v l.length (colCells l) → Calls Tryz.prog 72 #[v] w' fun e w2 => e = .returned (.bool true) ∧ Below w'.heap.size w' w2) := hide (fun w' v hr => by
        have := hasTwins_any v l _ w' hr (by omega)
        rw [ht] at this
        exact this)
      clear ht
      go_enter Tryz.func38, Tryz.ntmps38
      go_wp2_with (first | (go_at_call 68; refine HR.out.mono ?_; rintro e w2 ⟨⟨v, rfl, hrow2⟩, hb2⟩; have c0 := (HF.out w2 hb2).1) | (go_at_call 69; refine (HN.out w2 hb2).mono ?_; rintro e w3 ⟨rfl, rfl⟩) | (go_at_call 70; refine (HF.out w2 hb2).2.mono ?_; rintro e w3 ⟨rfl, rfl⟩) | (go_at_call 71; refine (HH.out w2).mono ?_; rintro e w3 ⟨rfl, rfl⟩) | (go_at_call 72; refine (HT.out w2 v hrow2).mono ?_; rintro e w3 ⟨rfl, hb3⟩))
      go_ret
      exact HE.out w3 (hb2.trans (hb3.mono hb2.size))
    · clear h3
      go_enter Tryz.func38, Tryz.ntmps38
      go_wp2_with (first | (go_at_call 68; refine HR.out.mono ?_; rintro e w2 ⟨⟨v, rfl, hrow2⟩, hb2⟩; have c0 := (HF.out w2 hb2).1) | (go_at_call 69; refine (HN.out w2 hb2).mono ?_; rintro e w3 ⟨rfl, rfl⟩) | (go_at_call 70; refine (HF.out w2 hb2).2.mono ?_; rintro e w3 ⟨rfl, rfl⟩) | (go_at_call 71; refine (HH.out w2).mono ?_; rintro e w3 ⟨rfl, rfl⟩))
      go_ret
      exact HE.out w2 hb2
end
end Go.Proofs.YtbkeflgafjnefaaGreatDoor
