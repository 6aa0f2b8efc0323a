/- Towards the law of tables: G2. -/
import Derived.Test.YtbkeflgafjnefaaGreatDoorM10
import Derived.Test.YtbkeflgafjnefaaGreatDoorM12
import Derived.Test.YtbkeflgafjnefaaGreatDoorM13
import Derived.Test.YtbkeflgafjnefaaGreatDoorM06
namespace Go.Proofs.YtbkeflgafjnefaaGreatDoor
open Go.RowKit
open Trib
set_option maxHeartbeats 4000000 in
theorem clone_any (s : ByteArray) (w : World) (hs : s.size ≤ 2000000) : Calls Tryz.prog 77 #[.string s] w fun e w' => e = .returned (.string s) ∧ Below w.heap.size w w' := by
  go_enter Tryz.func77, Tryz.ntmps77
  go_wp2_with (go_at_call 130; refine (Tryz.stringslite_Clone s w (by omega)).mono ?_; rintro e w' ⟨rfl, hb⟩)
  go_ret
  exact ⟨rfl, hb⟩
def colV : Option (ByteArray × Nat) → Value
  | some c => .tuple #[.agg #[.string c.1, .int .i64 (c.2 : Int)], .bool true]
  | none => .tuple #[.agg #[.string ⟨#[]⟩, .int .i64 0], .bool false]
theorem cut_short (s sep : List UInt8) : (Lib.cut s sep).1.length ≤ s.length := by
  unfold Lib.cut
  split
  · simp only [List.length_take]; omega
  · exact Nat.le_refl _
set_option maxHeartbeats 4000000 in
set_option maxRecDepth 100000 in
theorem readColumn_any (s : ByteArray) (w : World) (hg : Glob w) (hs : s.size ≤ 2000000) : Calls Tryz.prog 120 #[.string s] w fun e w' => e = .returned (colV (colC s.data.toList)) ∧ Below w.heap.size w w' := by
  have hbig := hg.big
  have hba : Below w.heap.size w (w.alloc (.cells #[.string ⟨#[]⟩, .int .i64 0] 228)) := (Below.refl _ _).alloc (Nat.le_refl _) _
  have hG0 := hg.below hba hbig
  have hres := heap_alloc_new w (.cells #[.string ⟨#[]⟩, .int .i64 0] 228)
  obtain ⟨m, hm⟩ := hG0.maxLen
  have hcut := Tryz.strings_Cut s ⟨#[58]⟩ m _ (by omega) hm
  have hlen := cut_short s.data.toList [58]
  rw [Array.length_toList] at hlen
  have hlen' : (Lib.cut s.data.toList [58]).1.length ≤ 2000000 := Nat.le_trans hlen hs
  unfold colC
  have e58 : (⟨#[58]⟩ : ByteArray).data.toList = [58] := rfl
  rw [e58] at hcut
  generalize (Lib.cut s.data.toList [58]).2.2 = found at *
  generalize (Lib.cut s.data.toList [58]).1 = n at *
  generalize (Lib.cut s.data.toList [58]).2.1 = k at *
  have HCUT := hide hcut
  clear hcut hlen e58 hm
  have hN := fun (q : Nat) => isName_any (bytesL n) ((w.alloc (.cells #[.string ⟨#[]⟩, .int .i64 0] 228)).drewN q) (hG0.drewN q) hlen'
  rw [bytesL_list n] at hN
  have HN := hide hN
  clear hN
  have HR : ∀ q, ((w.alloc (.cells #[.string ⟨#[]⟩, .int .i64 0] 228)).drewN q).heap[w.heap.size]? = some (.cells #[.string ⟨#[]⟩, .int .i64 0] 228 (0, 0)) := fun _ => hres
  have HB : ∀ q, Below w.heap.size w ((w.alloc (.cells #[.string ⟨#[]⟩, .int .i64 0] 228)).drewN q) := fun q => hba.trans (by exact ⟨rfl, rfl, rfl, Nat.le_refl _, fun _ _ => rfl⟩)
  have HL := hide hlen'
  clear hres hba hG0 hg hlen'
  change Hid (Calls Tryz.prog 179 #[.string s, .string ⟨#[58]⟩] _ fun e w' => e = .returned (.tuple #[.string (bytesL n), .string (bytesL k), .bool found]) ∧ ∃ n, w' = World.drewN _ n) at HCUT
  unfold colK
  generalize hB : bytesL n = N at *
  have HNB := hide hB
  clear hB
  generalize nameB n = nb at *
  cases nb
  · rw [if_neg (by decide)]
    show Calls Tryz.prog _ _ _ fun e w' => e = .returned (.tuple #[.agg #[.string ⟨#[]⟩, .int .i64 0], .bool false]) ∧ Below w.heap.size w w'
    go_enter Tryz.func120, Tryz.ntmps120
    go_upto_region 3 with (first | (go_at_call 179; refine HCUT.out.mono ?_; rintro e w' ⟨rfl, q, rfl⟩) | (go_at_call 69; refine (HN.out q).mono ?_; rintro e w' ⟨rfl, rfl⟩))
    have hr := HR q
    have hbq := HB q
    clear HR HB HCUT HN
    generalize (w.alloc (.cells #[.string ⟨#[]⟩, .int .i64 0] 228)).drewN q = W at *
    have r0 := blk_cell hr (i := 0) rfl
    have r1 := blk_cell hr (i := 1) rfl
    have g0 := blk_free (i := 0) hr
    have g1 := blk_free (i := 1) hr
    go_wp2_with fail
    refine bodyPost_ret (v := .tuple #[.agg #[.string ⟨#[]⟩, .int .i64 0], .bool false]) (by simp [results, Tryz.results120, go_sem, *]) rfl ⟨rfl, (hbq.setCell (Nat.le_refl _) _).setCell (Nat.le_refl _) _⟩
  · rw [if_pos rfl]
    by_cases h1 : k = [105]
    · rw [if_pos h1]
      subst h1
      show Calls Tryz.prog _ _ _ fun e w' => e = .returned (.tuple #[.agg #[.string N, .int .i64 1], .bool true]) ∧ Below w.heap.size w w'
      have e1 : ((bytesL [105]).toList == [105]) = true := by rw [ByteArray.toList_eq]; rfl
      go_enter Tryz.func120, Tryz.ntmps120
      go_upto_region 6 with (first | (go_at_call 179; refine HCUT.out.mono ?_; rintro e w' ⟨rfl, q, rfl⟩) | (go_at_call 69; refine (HN.out q).mono ?_; rintro e w' ⟨rfl, rfl⟩))
      have hr := HR q
      have hbq := HB q
      clear HR HB HCUT HN
      generalize (w.alloc (.cells #[.string ⟨#[]⟩, .int .i64 0] 228)).drewN q = W at *
      have hblt : w.heap.size < W.heap.size := (Array.getElem?_eq_some_iff.1 hr).1
      go_wp2_with fail
      refine (clone_any N _ (by rw [← HNB.out]; exact HL.out)).mono ?_
      rintro e w4 ⟨rfl, hb4⟩
      have hr4 := (hb4.block w.heap.size hblt).trans hr
      have r0 := blk_cell hr4 (i := 0) rfl
      have r1 := blk_cell hr4 (i := 1) rfl
      have g0 := blk_free (i := 0) hr4
      have g1 := blk_free (i := 1) hr4
      go_wp2_with fail
      refine bodyPost_ret (v := .tuple #[.agg #[.string N, .int .i64 1], .bool true]) (by simp [results, Tryz.results120, go_sem, *]) rfl ⟨rfl, ((hbq.trans (hb4.mono hbq.size)).setCell (Nat.le_refl _) _).setCell (Nat.le_refl _) _⟩
    · rw [if_neg h1]
      have k1 : ¬ (bytesL k).toList = [105] := by rw [ByteArray.toList_eq]; exact h1
      by_cases h2 : k = [116]
      · rw [if_pos h2]
        subst h2
        show Calls Tryz.prog _ _ _ fun e w' => e = .returned (.tuple #[.agg #[.string N, .int .i64 2], .bool true]) ∧ Below w.heap.size w w'
        have e1 : ((bytesL [116]).toList == [105]) = false := by rw [ByteArray.toList_eq]; rfl
        have e2 : ((bytesL [116]).toList == [116]) = true := by rw [ByteArray.toList_eq]; rfl
        clear k1
        go_enter Tryz.func120, Tryz.ntmps120
        go_upto_region 8 with (first | (go_at_call 179; refine HCUT.out.mono ?_; rintro e w' ⟨rfl, q, rfl⟩) | (go_at_call 69; refine (HN.out q).mono ?_; rintro e w' ⟨rfl, rfl⟩))
        have hr := HR q
        have hbq := HB q
        clear HR HB HCUT HN
        generalize (w.alloc (.cells #[.string ⟨#[]⟩, .int .i64 0] 228)).drewN q = W at *
        have hblt : w.heap.size < W.heap.size := (Array.getElem?_eq_some_iff.1 hr).1
        go_wp2_with fail
        refine (clone_any N _ (by rw [← HNB.out]; exact HL.out)).mono ?_
        rintro e w4 ⟨rfl, hb4⟩
        have hr4 := (hb4.block w.heap.size hblt).trans hr
        have r0 := blk_cell hr4 (i := 0) rfl
        have r1 := blk_cell hr4 (i := 1) rfl
        have g0 := blk_free (i := 0) hr4
        have g1 := blk_free (i := 1) hr4
        go_wp2_with fail
        refine bodyPost_ret (v := .tuple #[.agg #[.string N, .int .i64 2], .bool true]) (by simp [results, Tryz.results120, go_sem, *]) rfl ⟨rfl, ((hbq.trans (hb4.mono hbq.size)).setCell (Nat.le_refl _) _).setCell (Nat.le_refl _) _⟩
      · rw [if_neg h2]
        have k2 : ¬ (bytesL k).toList = [116] := by rw [ByteArray.toList_eq]; exact h2
        show Calls Tryz.prog _ _ _ fun e w' => e = .returned (.tuple #[.agg #[.string ⟨#[]⟩, .int .i64 0], .bool false]) ∧ Below w.heap.size w w'
        have HK1 : ((bytesL k).toList == [105]) = false := beq_eq_false_iff_ne.2 k1
        have HK2 : ((bytesL k).toList == [116]) = false := beq_eq_false_iff_ne.2 k2
        clear k1 k2
        generalize bytesL k = kb at *
        go_enter Tryz.func120, Tryz.ntmps120
        go_upto_region 9 with (first | (go_at_call 179; refine HCUT.out.mono ?_; rintro e w' ⟨rfl, q, rfl⟩) | (go_at_call 69; refine (HN.out q).mono ?_; rintro e w' ⟨rfl, rfl⟩))
        have hr := HR q
        have hbq := HB q
        clear HR HB HCUT HN
        generalize (w.alloc (.cells #[.string ⟨#[]⟩, .int .i64 0] 228)).drewN q = W at *
        have r0 := blk_cell hr (i := 0) rfl
        have r1 := blk_cell hr (i := 1) rfl
        have g0 := blk_free (i := 0) hr
        have g1 := blk_free (i := 1) hr
        go_wp2_with fail
        refine bodyPost_ret (v := .tuple #[.agg #[.string ⟨#[]⟩, .int .i64 0], .bool false]) (by simp [results, Tryz.results120, go_sem, *]) rfl ⟨rfl, (hbq.setCell (Nat.le_refl _) _).setCell (Nat.le_refl _) _⟩
end Go.Proofs.YtbkeflgafjnefaaGreatDoor
