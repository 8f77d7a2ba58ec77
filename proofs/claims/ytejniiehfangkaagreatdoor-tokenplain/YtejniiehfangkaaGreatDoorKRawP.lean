/- Raw texts among tokens: where they end, and what they may not have; plain. -/
import Derived.Test.YtejniiehfangkaaGreatDoorKPlain
import Derived.Shelf.GgClosure.StringsIndexFunc
set_option linter.unusedVariables false
set_option linter.unusedSimpArgs false
namespace Go.Proofs.YtejniiehfangkaaGreatDoor
open Go.RowKit
abbrev r3 : List UInt8 := [34, 34, 34]
def prevAt (p : UInt8) (l : List UInt8) (i : Nat) : UInt8 := match i with
  | 0 => p
  | k + 1 => l.getD k p
theorem occ_zero (l : List UInt8) : Lib.occAt l r3 0 = rw3 l := by unfold Lib.occAt rw3; rw [List.drop_zero]
theorem rawE_scan : ∀ (i : Nat) (l : List UInt8) (p : UInt8), (∀ j, j < i → Lib.occAt l r3 j = false) → i ≤ l.length → rawE 0 p l = (rawE 0 (prevAt p l i) (l.drop i)).map (· + i)
  | 0, l, p, _, _ => by
    simp only [prevAt, List.drop_zero]
    cases rawE 0 p l <;> rfl
  | i + 1, [], p, _, h => by simp at h
  | i + 1, c :: t, p, h, hl => by
    have h0 : rw3 (c :: t) = false := by rw [← occ_zero]; exact h 0 (by omega)
    have hn : ∀ j, j < i → Lib.occAt t r3 j = false := fun j hj => by
      have := h (j + 1) (by omega)
      unfold Lib.occAt at this ⊢
      rwa [List.drop_succ_cons] at this
    have ih := rawE_scan i t c hn (by simpa using hl)
    have hp : prevAt p (c :: t) (i + 1) = prevAt c t i := by
      cases i with
      | zero => rfl
      | succ k =>
        simp only [prevAt, List.getD_cons_succ]
        have : k < t.length := by simp only [List.length_cons] at hl; omega
        rw [List.getD_eq_getElem?_getD, List.getD_eq_getElem?_getD, List.getElem?_eq_getElem this]; rfl
    conv => lhs; unfold rawE
    rw [h0, if_neg (by simp), ih, hp, List.drop_succ_cons, Option.map_map]
    congr 1
theorem rawE_hit {l : List UInt8} (p : UInt8) (h : rw3 l = true) : rawE 0 p l = if p.toNat = 92 then (rawE 0 34 (l.drop 3)).map (· + 3) else some 0 := by
  obtain ⟨r, rfl⟩ : ∃ r, l = 34 :: 34 :: 34 :: r := by
    unfold rw3 at h
    rw [List.isPrefixOf_iff_prefix] at h
    obtain ⟨r, hr⟩ := h
    exact ⟨r, hr.symm⟩
  conv => lhs; unfold rawE
  rw [if_pos h]
  split
  · simp only [rawE, List.drop_succ_cons, List.drop_zero, Option.map_map]
    congr 1
  · rfl
theorem rawE_none {l : List UInt8} (p : UInt8) (h : ∀ j, j ≤ l.length → Lib.occAt l r3 j = false) : rawE 0 p l = none := by
  rw [rawE_scan l.length l p (fun j hj => h j (by omega)) (Nat.le_refl _), List.drop_length]
  simp [rawE]
/-- A rune that a raw text may not have. -/
def ctR (r : Nat) : Bool := decide ((r : Int) < 32) && (((r : Int) != 9) && (((r : Int) != 10) && ((r : Int) != 13)))
theorem ctR_big (r : Nat) (h : 32 ≤ r) : ctR r = false := by unfold ctR; rw [decide_eq_false (by omega)]; rfl
theorem ctR_byte (c : UInt8) : ctR c.toNat = ctB c := by
  unfold ctR ctB
  rw [Bool.eq_iff_iff]
  simp
  omega
theorem ct_high {l : List UInt8} (h : ∀ c ∈ l, 128 ≤ c.toNat) : l.any ctB = false := by
  rw [List.any_eq_false]
  intro c hc
  have := h c hc
  unfold ctB
  rw [decide_eq_false (by omega)]
  simp
theorem idx_ct (s : ByteArray) : ∀ f pos, s.size ≤ pos + f → decide (0 ≤ Lib.idxFuncFrom ctR true s f pos) = (s.data.toList.drop pos).any ctB
  | 0, pos, h => by
    rw [List.drop_of_length_le (by rw [← Lib.size_eq]; omega)]
    simp [Lib.idxFuncFrom]
  | f + 1, pos, h => by
    by_cases hp : pos < s.size
    · have hd := dec_in s pos hp
      simp only [Lib.idxFuncFrom, hp, if_true]
      by_cases ha : (s.get! pos).toNat < 128
      · have e := (size_one s pos hp ha).1
        rw [e, drop_cons s pos hp, List.any_cons]
        simp only [ctR_byte]
        cases hc : ctB (s.get! pos)
        · simp only [Bool.false_eq_true, if_false, Bool.false_or]
          exact idx_ct s f (pos + 1) (by omega)
        · simp
      · have hr : 32 ≤ (Utf8.decode s pos).1 := by
          rcases Nat.lt_or_ge (Utf8.decode s pos).1 128 with hl | hl
          · have := dec_small s pos hp hl; omega
          · omega
        rw [ctR_big _ hr]
        simp only [Bool.false_eq_true, if_false]
        rw [idx_ct s f (pos + (Utf8.decode s pos).2) (by omega)]
        have hsplit : s.data.toList.drop pos = (s.data.toList.drop pos).take (Utf8.decode s pos).2 ++ s.data.toList.drop (pos + (Utf8.decode s pos).2) := by
          rw [← List.drop_drop, List.take_append_drop]
        have hh : ((s.data.toList.drop pos).take (Utf8.decode s pos).2).any ctB = false := ct_high (fun c hc => by
          obtain ⟨i, hi, he⟩ := List.mem_iff_getElem.1 hc
          rw [List.length_take, List.length_drop] at hi
          have := hd.2.2 (by omega) i (by omega)
          rw [List.getElem_take, List.getElem_drop] at he
          rw [get_bang_data s (pos + i) (by omega)] at he
          rw [← he]; exact this)
        rw [hsplit, List.any_append, hh, Bool.false_or]
    · rw [List.drop_of_length_le (by rw [← Lib.size_eq]; omega)]
      simp [Lib.idxFuncFrom, hp]
theorem contains_ct (s : ByteArray) : decide (0 ≤ Lib.idxFunc ctR true s) = s.data.toList.any ctB := by
  unfold Lib.idxFunc
  rw [idx_ct s s.size 0 (by omega), List.drop_zero]
end Go.Proofs.YtejniiehfangkaaGreatDoor
