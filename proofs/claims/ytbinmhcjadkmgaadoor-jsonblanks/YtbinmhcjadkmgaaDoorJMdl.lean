/- JSON, read: the value and the place behind it, or the first error and its place; plain. -/
import Derived.Test.YtbinmhcjadkmgaaDoorJPos
import Derived.Test.YtbinmhcjadkmgaaDoorJInj
set_option linter.unusedVariables false
set_option linter.unusedSimpArgs false
namespace Go.Proofs.YtbinmhcjadkmgaaDoor
open Go.RowKit
inductive Got where
  | ok (a : Va) (i : Nat)
  | no (e : Int) (b : Nat)
abbrev leafV (k n : Int) : Va := .mk k n ByteArray.empty [] [] []
/-! ### numbers -/
/-- The place behind digits. -/
def dgF (s : ByteArray) : Nat → Nat → Nat
  | 0, i => i
  | f + 1, i => if i < s.size ∧ isDg (s.get! i) = true then dgF s f (i + 1) else i
def dgs (s : ByteArray) (i : Nat) : Nat := dgF s (s.size + 1) i
theorem dgF_ge (s : ByteArray) : ∀ f i, i ≤ dgF s f i
  | 0, i => Nat.le_refl _
  | f + 1, i => by
    unfold dgF
    split
    · have := dgF_ge s f (i + 1); omega
    · exact Nat.le_refl _
theorem dgF_le (s : ByteArray) : ∀ f i, i ≤ s.size → dgF s f i ≤ s.size
  | 0, i, h => h
  | f + 1, i, h => by
    unfold dgF
    split
    · rename_i c; exact dgF_le s f (i + 1) (by omega)
    · exact h
theorem dgF_more (s : ByteArray) : ∀ f g i, s.size < i + f → s.size < i + g → dgF s f i = dgF s g i
  | 0, g, i, hf, hg => by
    cases g with
    | zero => rfl
    | succ g => unfold dgF; rw [if_neg (by omega)]
  | f + 1, 0, i, hf, hg => by unfold dgF; rw [if_neg (by omega)]
  | f + 1, g + 1, i, hf, hg => by
    unfold dgF
    split
    · exact dgF_more s f g (i + 1) (by omega) (by omega)
    · rfl
theorem dgs_step {s : ByteArray} {i : Nat} (h : i < s.size) (hb : isDg (s.get! i) = true) : dgs s (i + 1) = dgs s i := by
  unfold dgs
  conv => rhs; unfold dgF
  rw [if_pos ⟨h, hb⟩]
  exact dgF_more s _ _ _ (by omega) (by omega)
theorem dgs_stop {s : ByteArray} {i : Nat} (h : ¬ (i < s.size ∧ isDg (s.get! i) = true)) : dgs s i = i := by
  unfold dgs dgF
  rw [if_neg h]
theorem dgs_le {s : ByteArray} {i : Nat} (h : i ≤ s.size) : dgs s i ≤ s.size := dgF_le s _ i h
theorem dgs_ge (s : ByteArray) (i : Nat) : i ≤ dgs s i := dgF_ge s _ i
/-- The digits' number. -/
def dvl (s : ByteArray) (i j : Nat) : Nat := dv ((s.data.toList.drop i).take (j - i))
/-- A sign stands at a. -/
def neg1 (s : ByteArray) (a : Nat) : Bool := preAt s a ⟨#[45]⟩
def fst1 (s : ByteArray) (a : Nat) : Nat := if neg1 s a then a + 1 else a
def numG (s : ByteArray) (a : Nat) : Got :=
  if dgs s (fst1 s a) = fst1 s a ∨ (neg1 s a = true ∧ dgs s (fst1 s a) = fst1 s a + 1 ∧ (s.get! (fst1 s a)).toNat = 48) then .no 4 a
  else if (s.get! (fst1 s a)).toNat = 48 ∧ fst1 s a + 1 < dgs s (fst1 s a) then .no 4 (fst1 s a + 1)
  else if 9007199254740991 < dvl s (fst1 s a) (dgs s (fst1 s a)) then .no 6 a
  else .ok (leafV 2 (if neg1 s a then -(dvl s (fst1 s a) (dgs s (fst1 s a)) : Int) else (dvl s (fst1 s a) (dgs s (fst1 s a)) : Int))) (dgs s (fst1 s a))
/-! ### words, texts -/
def wTrue : ByteArray := ⟨#[116, 114, 117, 101]⟩
def wFalse : ByteArray := ⟨#[102, 97, 108, 115, 101]⟩
def wNull : ByteArray := ⟨#[110, 117, 108, 108]⟩
def wordG (s : ByteArray) (p : Nat) : Got :=
  if preAt s p wTrue then .ok (leafV 1 1) (p + 4) else if preAt s p wFalse then .ok (leafV 1 0) (p + 5) else if preAt s p wNull then .ok (leafV 0 0) (p + 4) else .no 4 p
def uq (s : ByteArray) (p : Nat) : List UInt8 × Nat × Nat := unq (s.extract p s.size)
def txtG (s : ByteArray) (p : Nat) : Got := if (uq s p).2.2 = 0 then .ok (.mk 3 0 ⟨(uq s p).1.toArray⟩ [] [] []) (p + (uq s p).2.1) else .no ((uq s p).2.2 : Nat) (p + (uq s p).2.1)
/-! ### values -/
abbrev sComma : ByteArray := ⟨#[44]⟩
abbrev sColon : ByteArray := ⟨#[58]⟩
abbrev sOpL : ByteArray := ⟨#[91]⟩
abbrev sClL : ByteArray := ⟨#[93]⟩
abbrev sOpO : ByteArray := ⟨#[123]⟩
abbrev sClO : ByteArray := ⟨#[125]⟩
/-- The values of a list, from one on. -/
def elemsG (vl : Nat → Got) (s : ByteArray) : Nat → Nat → List Va → Got
  | 0, i, _ => .no 4 i
  | f + 1, i, acc => match vl i with
    | .no e b => .no e b
    | .ok x j => if sgn s j sComma then elemsG vl s f (blk s j + 1) (acc ++ [x]) else if sgn s j sClL then .ok (.mk 4 0 ByteArray.empty (acc ++ [x]) [] []) (blk s j + 1) else .no 4 (blk s j)
/-- A key is among them. -/
def hasK (ks : List ByteArray) (x : ByteArray) : Bool := ks.any fun k => decide (k = x)
theorem hasK_iff {ks : List ByteArray} {x : ByteArray} : hasK ks x = true ↔ x ∈ ks := by
  unfold hasK
  rw [List.any_eq_true]
  exact ⟨fun ⟨k, h1, h2⟩ => by rw [← of_decide_eq_true h2]; exact h1, fun h => ⟨x, h, decide_eq_true rfl⟩⟩
/-- The pairs of an object, from one on. -/
def memsG (vl : Nat → Got) (s : ByteArray) : Nat → Nat → List ByteArray → List Va → Got
  | 0, i, _, _ => .no 4 i
  | f + 1, i, ks, acc =>
    if (uq s (blk s i)).2.2 ≠ 0 then .no ((uq s (blk s i)).2.2 : Nat) (blk s i + (uq s (blk s i)).2.1)
    else if hasK ks ⟨(uq s (blk s i)).1.toArray⟩ then .no 7 (blk s i)
    else if sgn s (blk s i + (uq s (blk s i)).2.1) sColon then
      (match vl (blk s (blk s i + (uq s (blk s i)).2.1) + 1) with
      | .no e b => .no e b
      | .ok x j => if sgn s j sComma then memsG vl s f (blk s j + 1) (ks ++ [⟨(uq s (blk s i)).1.toArray⟩]) (acc ++ [x]) else if sgn s j sClO then .ok (.mk 5 0 ByteArray.empty [] (ks ++ [⟨(uq s (blk s i)).1.toArray⟩]) (acc ++ [x])) (blk s j + 1) else .no 4 (blk s j))
    else .no 4 (blk s (blk s i + (uq s (blk s i)).2.1))
def listG (vl : Nat → Got) (s : ByteArray) (p : Nat) : Got := if sgn s (p + 1) sClL then .ok (leafV 4 0) (blk s (p + 1) + 1) else elemsG vl s (s.size + 1) (blk s (p + 1)) []
def objG (vl : Nat → Got) (s : ByteArray) (p : Nat) : Got := if sgn s (p + 1) sClO then .ok (leafV 5 0) (blk s (p + 1) + 1) else memsG vl s (s.size + 1) (blk s (p + 1)) [] []
/-- A value of so many levels, from i on. -/
def valG (s : ByteArray) : Nat → Nat → Got
  | 0, i => if s.size ≤ blk s i then .no 4 (blk s i) else .no 5 (blk s i)
  | f + 1, i =>
    if s.size ≤ blk s i then .no 4 (blk s i)
    else if (s.get! (blk s i)).toNat = 34 then txtG s (blk s i)
    else if (s.get! (blk s i)).toNat = 45 ∨ isDg (s.get! (blk s i)) = true then numG s (blk s i)
    else if (s.get! (blk s i)).toNat = 91 then listG (valG s f) s (blk s i)
    else if (s.get! (blk s i)).toNat = 123 then objG (valG s f) s (blk s i)
    else wordG s (blk s i)
/-- What Read answers: the value, the place, the error. -/
def parseG (s : ByteArray) : Va × Int × Int := match valG s 12 0 with
  | .no e b => ((leafV 0 0), (b : Int), e)
  | .ok a j => if blk s j < s.size then ((leafV 0 0), (blk s j : Int), 4) else (a, -1, 0)
/-! ### places -/
theorem blk_at {s : ByteArray} {i : Nat} : ¬ (blk s i < s.size ∧ isBl (s.get! (blk s i)).toNat = true) := by
  have go : ∀ f i, s.size < i + f → ¬ (blkF s f i < s.size ∧ isBl (s.get! (blkF s f i)).toNat = true) := by
    intro f
    induction f with
    | zero => intro i h; unfold blkF; omega
    | succ f ih =>
      intro i h
      unfold blkF
      split
      · exact ih (i + 1) (by omega)
      · assumption
  exact go _ i (by omega)
theorem blk_idem (s : ByteArray) (i : Nat) : blk s (blk s i) = blk s i := blk_stop blk_at
theorem sgn_idem (s : ByteArray) (i : Nat) (p : ByteArray) : sgn s (blk s i) p = sgn s i p := by unfold sgn; rw [blk_idem]
theorem sgn_in {s : ByteArray} {i : Nat} {p : ByteArray} (h : sgn s i p = true) (hi : i ≤ s.size) : blk s i + p.size ≤ s.size := pre_len h (blk_le hi)
/-- It gets on, within the text. -/
def GIn (s : ByteArray) (i : Nat) : Got → Prop
  | .ok _ j => i < j ∧ j ≤ s.size
  | .no e b => e ≠ 0 ∧ b ≤ s.size
theorem unqF_inn (s : ByteArray) : ∀ f i o, i ≤ s.size → (unqF s f i o).2.1 ≤ s.size ∧ ((unqF s f i o).2.2 = 0 → i < (unqF s f i o).2.1)
  | 0, i, o, h => by simp [unqF]
  | f + 1, i, o, h => by
    unfold unqF
    by_cases h1 : i < s.size
    · rw [if_pos h1]
      by_cases h2 : (s.get! i).toNat = 34
      · rw [if_pos h2]; exact ⟨h1, fun _ => by simp⟩
      rw [if_neg h2]
      by_cases h3 : (s.get! i).toNat < 32
      · rw [if_pos h3]; exact ⟨h, fun e => by simp at e⟩
      rw [if_neg h3]
      by_cases h4 : (s.get! i).toNat = 92
      · rw [if_pos h4]
        by_cases h5 : (escR s i).2 = 0
        · rw [if_pos h5]; exact ⟨h, fun e => by simp at e⟩
        · rw [if_neg h5]
          have hk : 2 ≤ (escR s i).2 ∧ i + (escR s i).2 ≤ s.size := by
            rcases escR_ok s i with e | e
            · exact absurd e h5
            · exact ⟨e.1, e.2.2.1⟩
          obtain ⟨a, b⟩ := unqF_inn s f (i + (escR s i).2) (o ++ encL (escR s i).1) hk.2
          exact ⟨a, fun e => by have := b e; omega⟩
      · rw [if_neg h4]
        by_cases h5 : badAt s i = true
        · rw [if_pos h5]; exact ⟨h, fun e => by simp at e⟩
        · rw [if_neg h5]
          have hk := dec_in s i h1
          obtain ⟨a, b⟩ := unqF_inn s f (i + (Utf8.decode s i).2) (o ++ encL (Utf8.decode s i).1) hk.2.1
          exact ⟨a, fun e => by have := b e; omega⟩
    · rw [if_neg h1]; simp
theorem unq_in (s : ByteArray) : (unq s).2.1 ≤ s.size ∧ ((unq s).2.2 = 0 → 1 < (unq s).2.1) := by
  unfold unq
  by_cases h : 0 < s.size ∧ (s.get! 0).toNat = 34
  · rw [if_pos h]; exact unqF_inn s _ 1 [] h.1
  · rw [if_neg h]; simp
theorem uq_in {s : ByteArray} {p : Nat} (h : p ≤ s.size) : p + (uq s p).2.1 ≤ s.size ∧ ((uq s p).2.2 = 0 → p < p + (uq s p).2.1) := by
  have h1 := unq_in (s.extract p s.size)
  rw [ByteArray.size_extract, Nat.min_self] at h1
  unfold uq
  exact ⟨by omega, fun e => by have := h1.2 e; omega⟩
theorem txt_in {s : ByteArray} {p : Nat} (h : p ≤ s.size) : GIn s p (txtG s p) := by
  have h1 := uq_in h
  unfold txtG
  split
  · rename_i e; exact ⟨h1.2 e, h1.1⟩
  · rename_i e; exact ⟨by omega, h1.1⟩
theorem word_in {s : ByteArray} {p : Nat} (h : p ≤ s.size) : GIn s p (wordG s p) := by
  unfold wordG
  split
  · rename_i e; have := pre_len e h; exact ⟨by omega, this⟩
  split
  · rename_i e; have := pre_len e h; exact ⟨by omega, this⟩
  split
  · rename_i e; have := pre_len e h; exact ⟨by omega, this⟩
  · exact ⟨by decide, h⟩
theorem fst1_in {s : ByteArray} {a : Nat} (h : a ≤ s.size) : a ≤ fst1 s a ∧ fst1 s a ≤ s.size := by
  unfold fst1
  split
  · rename_i e; have := pre_len e h; exact ⟨by omega, this⟩
  · exact ⟨Nat.le_refl _, h⟩
theorem num_in {s : ByteArray} {p : Nat} (h : p ≤ s.size) : GIn s p (numG s p) := by
  have h1 := fst1_in h
  have h2 := dgs_ge s (fst1 s p)
  have h3 := dgs_le h1.2
  unfold numG
  split
  · exact ⟨by decide, h⟩
  rename_i c
  split
  · rename_i d; exact ⟨by decide, by omega⟩
  split
  · exact ⟨by decide, h⟩
  · refine ⟨?_, h3⟩
    have : dgs s (fst1 s p) ≠ fst1 s p := fun e => c (.inl e)
    omega
theorem elems_in {vl : Nat → Got} {s : ByteArray} (hv : ∀ i, i ≤ s.size → GIn s i (vl i)) : ∀ f i acc, i ≤ s.size → GIn s i (elemsG vl s f i acc)
  | 0, i, acc, h => ⟨by decide, h⟩
  | f + 1, i, acc, h => by
    have h1 := hv i h
    unfold elemsG
    cases hg : vl i with
    | no e b => rw [hg] at h1; exact h1
    | ok x j =>
      rw [hg] at h1
      have hb := blk_ge s j
      simp only
      split
      · rename_i c
        have hc := sgn_in c h1.2
        have ih := elems_in hv f (blk s j + 1) (acc ++ [x]) hc
        cases hg2 : elemsG vl s f (blk s j + 1) (acc ++ [x]) with
        | no e b => rw [hg2] at ih; exact ih
        | ok y k => rw [hg2] at ih; exact ⟨by have := ih.1; have := h1.1; omega, ih.2⟩
      split
      · rename_i c
        have hc := sgn_in c h1.2
        exact ⟨by have := h1.1; omega, hc⟩
      · exact ⟨by decide, blk_le h1.2⟩
set_option maxHeartbeats 2000000 in
theorem mems_in {vl : Nat → Got} {s : ByteArray} (hv : ∀ i, i ≤ s.size → GIn s i (vl i)) : ∀ f i ks acc, i ≤ s.size → GIn s i (memsG vl s f i ks acc)
  | 0, i, ks, acc, h => ⟨by decide, h⟩
  | f + 1, i, ks, acc, h => by
    have hb0 := blk_ge s i
    have hq := uq_in (blk_le h)
    unfold memsG
    by_cases q0 : (uq s (blk s i)).2.2 ≠ 0
    · rw [if_pos q0]; exact ⟨by omega, hq.1⟩
    rw [if_neg q0]
    by_cases q1 : hasK ks ⟨(uq s (blk s i)).1.toArray⟩ = true
    · rw [if_pos q1]; exact ⟨by decide, blk_le h⟩
    rw [if_neg q1]
    by_cases q2 : sgn s (blk s i + (uq s (blk s i)).2.1) sColon = true
    · rw [if_pos q2]
      have hc := sgn_in q2 hq.1
      have hc' : blk s (blk s i + (uq s (blk s i)).2.1) + 1 ≤ s.size := hc
      have hb1 := blk_ge s (blk s i + (uq s (blk s i)).2.1)
      have h1 := hv _ hc'
      cases hg : vl (blk s (blk s i + (uq s (blk s i)).2.1) + 1) with
      | no e b => rw [hg] at h1; exact h1
      | ok x j =>
        rw [hg] at h1
        have h10 := h1.1
        have hb := blk_ge s j
        simp only
        by_cases q3 : sgn s j sComma = true
        · rw [if_pos q3]
          have hc := sgn_in q3 h1.2
          have ih := mems_in hv f (blk s j + 1) (ks ++ [⟨(uq s (blk s i)).1.toArray⟩]) (acc ++ [x]) hc
          cases hg2 : memsG vl s f (blk s j + 1) (ks ++ [⟨(uq s (blk s i)).1.toArray⟩]) (acc ++ [x]) with
          | no e b => rw [hg2] at ih; exact ih
          | ok y k => rw [hg2] at ih; exact ⟨by have := ih.1; omega, ih.2⟩
        rw [if_neg q3]
        by_cases q4 : sgn s j sClO = true
        · rw [if_pos q4]
          have hc := sgn_in q4 h1.2
          exact ⟨by omega, hc⟩
        · rw [if_neg q4]; exact ⟨by decide, blk_le h1.2⟩
    · rw [if_neg q2]; exact ⟨by decide, blk_le hq.1⟩
set_option maxHeartbeats 2000000 in
theorem val_in (s : ByteArray) : ∀ f i, i ≤ s.size → GIn s i (valG s f i)
  | 0, i, h => by
    have := blk_le h
    unfold valG
    split
    · exact ⟨by decide, this⟩
    · exact ⟨by decide, this⟩
  | f + 1, i, h => by
    have hb := blk_le h
    have hg := blk_ge s i
    have up : ∀ g, GIn s (blk s i) g → GIn s i g := fun g hg2 => by
      cases g with
      | no e b => exact hg2
      | ok x j => exact ⟨by have := hg2.1; omega, hg2.2⟩
    have ih := val_in s f
    unfold valG
    by_cases c : s.size ≤ blk s i
    · rw [if_pos c]; exact ⟨by decide, hb⟩
    rw [if_neg c]
    by_cases c1 : (s.get! (blk s i)).toNat = 34
    · rw [if_pos c1]; exact up _ (txt_in hb)
    rw [if_neg c1]
    by_cases c2 : (s.get! (blk s i)).toNat = 45 ∨ isDg (s.get! (blk s i)) = true
    · rw [if_pos c2]; exact up _ (num_in hb)
    rw [if_neg c2]
    have h2 : blk s i + 1 ≤ s.size := by omega
    have h3 := blk_ge s (blk s i + 1)
    by_cases c3 : (s.get! (blk s i)).toNat = 91
    · rw [if_pos c3]
      refine up _ ?_
      unfold listG
      by_cases d : sgn s (blk s i + 1) sClL = true
      · rw [if_pos d]
        have := sgn_in d h2
        exact ⟨by omega, this⟩
      · rw [if_neg d]
        have h4 := elems_in ih (s.size + 1) (blk s (blk s i + 1)) [] (blk_le h2)
        cases hg2 : elemsG (valG s f) s (s.size + 1) (blk s (blk s i + 1)) [] with
        | no e b => rw [hg2] at h4; exact h4
        | ok y k => rw [hg2] at h4; exact ⟨by have := h4.1; omega, h4.2⟩
    rw [if_neg c3]
    by_cases c4 : (s.get! (blk s i)).toNat = 123
    · rw [if_pos c4]
      refine up _ ?_
      unfold objG
      by_cases d : sgn s (blk s i + 1) sClO = true
      · rw [if_pos d]
        have := sgn_in d h2
        exact ⟨by omega, this⟩
      · rw [if_neg d]
        have h4 := mems_in ih (s.size + 1) (blk s (blk s i + 1)) [] [] (blk_le h2)
        cases hg2 : memsG (valG s f) s (s.size + 1) (blk s (blk s i + 1)) [] [] with
        | no e b => rw [hg2] at h4; exact h4
        | ok y k => rw [hg2] at h4; exact ⟨by have := h4.1; omega, h4.2⟩
    rw [if_neg c4]
    exact up _ (word_in hb)
end Go.Proofs.YtbinmhcjadkmgaaDoor
