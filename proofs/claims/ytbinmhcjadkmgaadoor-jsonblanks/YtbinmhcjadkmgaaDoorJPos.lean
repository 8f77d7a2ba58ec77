/- Places in a text: behind blanks, where a word stands; plain. -/
import Derived.Test.YtbinmhcjadkmgaaDoorPlain
import Derived.Lib.BufferMore
import Derived.Lib.Builder
import Derived.Lib.Bytes2
set_option linter.unusedVariables false
set_option linter.unusedSimpArgs false
namespace Go.Proofs.YtbinmhcjadkmgaaDoor
open Go.RowKit
def isBl (c : Nat) : Bool := c == 32 || c == 9 || c == 10 || c == 13
/-- The place behind blanks. -/
def blkF (s : ByteArray) : Nat → Nat → Nat
  | 0, i => i
  | f + 1, i => if i < s.size ∧ isBl (s.get! i).toNat = true then blkF s f (i + 1) else i
def blk (s : ByteArray) (i : Nat) : Nat := blkF s (s.size + 1) i
theorem blkF_ge (s : ByteArray) : ∀ f i, i ≤ blkF s f i
  | 0, i => Nat.le_refl _
  | f + 1, i => by
    unfold blkF
    split
    · have := blkF_ge s f (i + 1); omega
    · exact Nat.le_refl _
theorem blkF_le (s : ByteArray) : ∀ f i, i ≤ s.size → blkF s f i ≤ s.size
  | 0, i, h => h
  | f + 1, i, h => by
    unfold blkF
    split
    · rename_i c; exact blkF_le s f (i + 1) (by omega)
    · exact h
theorem blkF_more (s : ByteArray) : ∀ f g i, s.size < i + f → s.size < i + g → blkF s f i = blkF s g i
  | 0, g, i, hf, hg => by
    cases g with
    | zero => rfl
    | succ g => unfold blkF; rw [if_neg (by omega)]
  | f + 1, 0, i, hf, hg => by unfold blkF; rw [if_neg (by omega)]
  | f + 1, g + 1, i, hf, hg => by
    unfold blkF
    split
    · exact blkF_more s f g (i + 1) (by omega) (by omega)
    · rfl
theorem blk_step {s : ByteArray} {i : Nat} (h : i < s.size) (hb : isBl (s.get! i).toNat = true) : blk s (i + 1) = blk s i := by
  unfold blk
  conv => rhs; unfold blkF
  rw [if_pos ⟨h, hb⟩]
  exact blkF_more s _ _ _ (by omega) (by omega)
theorem blk_stop {s : ByteArray} {i : Nat} (h : ¬ (i < s.size ∧ isBl (s.get! i).toNat = true)) : blk s i = i := by
  unfold blk blkF
  rw [if_neg h]
theorem blk_le {s : ByteArray} {i : Nat} (h : i ≤ s.size) : blk s i ≤ s.size := blkF_le s _ i h
theorem blk_ge (s : ByteArray) (i : Nat) : i ≤ blk s i := blkF_ge s _ i
/-- A word stands at i. -/
def preAt (s : ByteArray) (i : Nat) (p : ByteArray) : Bool := Lib.hasPrefix (s.extract i s.size).data.toList p.data.toList
theorem pre_len {s p : ByteArray} {i : Nat} (h : preAt s i p = true) (hi : i ≤ s.size) : i + p.size ≤ s.size := by
  unfold preAt at h
  have h2 := Lib.hasPrefix_le h
  rw [← Lib.size_eq, ← Lib.size_eq, ByteArray.size_extract] at h2
  omega
/-- Behind blanks a word stands. -/
def sgn (s : ByteArray) (i : Nat) (p : ByteArray) : Bool := preAt s (blk s i) p
end Go.Proofs.YtbinmhcjadkmgaaDoor
