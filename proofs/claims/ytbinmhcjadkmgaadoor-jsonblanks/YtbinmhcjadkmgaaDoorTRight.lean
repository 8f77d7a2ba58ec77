/- What a right value is; plain. -/
import Derived.Test.YtbinmhcjadkmgaaDoorTSam
import Derived.Test.YtbinmhcjadkmgaaDoorRefBad
set_option linter.unusedVariables false
set_option linter.unusedSimpArgs false
namespace Go.Proofs.YtbinmhcjadkmgaaDoor
open Go.RowKit
/-- A value is right but for what is in it. -/
structure TopP (k n : Int) (s : ByteArray) (l f : Nat) : Prop where
  k0 : 0 ≤ k
  k5 : k ≤ 5
  c1 : ¬ (k ≠ 1 ∧ k ≠ 2 ∧ n ≠ 0)
  c2 : ¬ (k ≠ 3 ∧ s.size ≠ 0)
  c3 : ¬ (k ≠ 4 ∧ 0 < l)
  c4 : ¬ (k ≠ 5 ∧ 0 < f)
  c5 : ¬ (k = 1 ∧ n ≠ 0 ∧ n ≠ 1)
  c6 : n ≤ 9007199254740991
  c7 : -9007199254740991 ≤ n
  c8 : rightB s = true
/-- Keys that are texts, and unlike. -/
def KeysP (ks : List ByteArray) : Prop := (∀ x ∈ ks, rightB x = true) ∧ ks.Nodup
mutual
def Va.R : Va → Nat → Prop
  | .mk k n s l ks f, d => 1 ≤ d ∧ TopP k n s l.length f.length ∧ KeysP ks ∧ RL l (d - 1) ∧ RL f (d - 1)
def RL : List Va → Nat → Prop
  | [], _ => True
  | x :: r, d => x.R d ∧ RL r d
end
theorem RL_app : ∀ (l r : List Va) (d : Nat), RL (l ++ r) d ↔ RL l d ∧ RL r d
  | [], r, d => by simp [RL]
  | x :: l, r, d => by simp [RL, RL_app l r d, and_assoc]
theorem RL_mem {x : Va} : ∀ {l : List Va} {d : Nat}, RL l d → x ∈ l → x.R d
  | y :: r, d, h, hx => by
    simp only [RL] at h
    rcases List.mem_cons.1 hx with rfl | hx
    · exact h.1
    · exact RL_mem h.2 hx
theorem RL_step {l : List Va} {i d : Nat} {x : Va} (h : RL (l.take i) d) (hx : l[i]? = some x) (hr : x.R d) : RL (l.take (i + 1)) d := by
  rw [take_next hx, RL_app]
  exact ⟨h, by simp [RL, hr]⟩
theorem ShL_mem {x : Va} : ∀ {l : List Va}, ShL l → x ∈ l → x.Sh
  | y :: r, h, hx => by
    simp only [ShL] at h
    rcases List.mem_cons.1 hx with rfl | hx
    · exact h.1
    · exact ShL_mem h.2 hx
theorem KeysP_nil : KeysP [] := ⟨by simp, by simp⟩
theorem KeysP_step {ks : List ByteArray} {i : Nat} {x : ByteArray} (h : KeysP (ks.take i)) (hx : ks[i]? = some x) (hr : rightB x = true) (hn : x ∉ ks.take i) : KeysP (ks.take (i + 1)) := by
  rw [take_next hx]
  refine ⟨fun y hy => ?_, ?_⟩
  · rcases List.mem_append.1 hy with hy | hy
    · exact h.1 y hy
    · simp at hy; subst hy; exact hr
  · rw [List.nodup_append]
    refine ⟨h.2, by simp, ?_⟩
    intro a ha b hb
    simp at hb
    subst hb
    intro e
    subst e
    exact hn ha
theorem empty_of {s : ByteArray} (h : s.size = 0) : s = ByteArray.empty := by
  apply ByteArray.ext
  apply Array.ext
  · simpa using h
  · intro i h1 h2
    simp at h2
theorem ne_empty {s : ByteArray} (h : s.size ≠ 0) : s.toList.isEmpty = false := by
  have hz : s.size = s.toList.length := by rw [Lib.toList_data, ← Lib.size_eq]
  cases hd : s.toList with
  | nil => rw [hd] at hz; exact absurd hz h
  | cons a b => rfl
theorem is_empty {s : ByteArray} (h : s.size = 0) : s.toList.isEmpty = true := by
  have hz : s.size = s.toList.length := by rw [Lib.toList_data, ← Lib.size_eq]
  cases hd : s.toList with
  | nil => rfl
  | cons a b => rw [hd] at hz; simp at hz; omega
theorem rightB_empty : rightB ByteArray.empty = true := by decide
/-- What a check answers. -/
def YesNo (p : Prop) (w : World) (e : Ending) (w' : World) : Prop := ∃ r : Bool, e = .returned (.bool r) ∧ (r = true ↔ p) ∧ Below w.heap.size w w'
theorem YesNo.no {p : Prop} {w w' : World} (h : ¬ p) (hb : Below w.heap.size w w') : YesNo p w (.returned (.bool false)) w' := ⟨false, rfl, ⟨fun h => absurd h (by decide), fun h' => absurd h' h⟩, hb⟩
theorem YesNo.yes {p : Prop} {w w' : World} (h : p) (hb : Below w.heap.size w w') : YesNo p w (.returned (.bool true)) w' := ⟨true, rfl, ⟨fun _ => h, fun _ => rfl⟩, hb⟩
end Go.Proofs.YtbinmhcjadkmgaaDoor
