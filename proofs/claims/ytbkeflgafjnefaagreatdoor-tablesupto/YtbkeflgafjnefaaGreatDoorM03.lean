/- Towards the law of tables: TokParts. -/
import Derived.Test.YtbkeflgafjnefaaGreatDoorM01
import Derived.WalkKit
namespace Go.Proofs.YtbkeflgafjnefaaGreatDoor
open Go.RowKit
open Trib

/-- What stands when the tokens ts have been read up to the place k. -/
def TkInv (s : ByteArray) (k : Nat) (ts : List ByteArray) (last : ByteArray) : Prop :=
  ts.length ≤ k ∧ ∃ f, s.size - k < f ∧ tokensOf s = (tkRun s f k last.data.toList).map (ts.map (·.data.toList) ++ ·)

theorem TkInv.start (s : ByteArray) : TkInv s 0 [] ⟨#[]⟩ := ⟨Nat.le_refl _, s.size + 1, by omega, by simp [tokensOf]⟩
theorem TkInv.blank {s : ByteArray} {k k' : Nat} {ts : List ByteArray} {last : ByteArray} (h : TkInv s k ts last) (hk : k < s.size) (hs : tkStep s k last.data.toList = some (none, k')) : TkInv s k' ts last := by
  obtain ⟨hl, f, hf, he⟩ := h
  obtain ⟨h1, h2⟩ := tkStep_lt hk hs
  match f, hf with
  | f + 1, hf =>
    refine ⟨by simp at h1; omega, f, by simp at h1 h2; omega, ?_⟩
    rw [he, tkRun, if_pos hk, hs]
theorem TkInv.tok {s : ByteArray} {k k' : Nat} {ts : List ByteArray} {last t : ByteArray} (h : TkInv s k ts last) (hk : k < s.size) (hs : tkStep s k last.data.toList = some (some t.data.toList, k')) : TkInv s k' (ts ++ [t]) t := by
  obtain ⟨hl, f, hf, he⟩ := h
  obtain ⟨h1, h2⟩ := tkStep_lt hk hs
  match f, hf with
  | f + 1, hf =>
    refine ⟨by simp at h1 ⊢; omega, f, by simp at h1 h2; omega, ?_⟩
    rw [he, tkRun, if_pos hk, hs]
    simp only [Option.map_map, List.map_append, List.map_cons, List.map_nil]
    congr 1
    funext l
    simp
theorem TkInv.bad {s : ByteArray} {k : Nat} {ts : List ByteArray} {last : ByteArray} (h : TkInv s k ts last) (hk : k < s.size) (hs : tkStep s k last.data.toList = none) : tokensOf s = none := by
  obtain ⟨hl, f, hf, he⟩ := h
  match f, hf with
  | f + 1, hf => rw [he, tkRun, if_pos hk, hs]; rfl
theorem TkInv.done {s : ByteArray} {k : Nat} {ts : List ByteArray} {last : ByteArray} (h : TkInv s k ts last) (hk : ¬ k < s.size) : tokensOf s = some (ts.map (·.data.toList)) := by
  obtain ⟨hl, f, hf, he⟩ := h
  match f, hf with
  | f + 1, hf => rw [he, tkRun, if_neg hk]; simp

/-- What Tokens answers. -/
def TokPost (s : ByteArray) (w : World) (e : Ending) (w' : World) : Prop :=
  (∃ (v : Value) (ts : List ByteArray), tokensOf s = some (ts.map (·.data.toList)) ∧ ts.length ≤ s.size ∧ e = .returned (.tuple #[v, .bool true]) ∧ w'.ownsRow w.heap.size 9 1 v ts.length (ts.map Value.string) ∧ Below w.heap.size w w') ∨
  (tokensOf s = none ∧ e = .returned (.tuple #[.slice none 0 0, .bool false]) ∧ Below w.heap.size w w')

theorem sub_def (s : ByteArray) (a e : Nat) : sub s a e = (s.extract a e).data.toList := rfl
end Go.Proofs.YtbkeflgafjnefaaGreatDoor
