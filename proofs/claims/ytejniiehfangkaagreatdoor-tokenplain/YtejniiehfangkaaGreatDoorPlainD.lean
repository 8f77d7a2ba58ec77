/- Plain facts on lines put together: no program in it. -/
import Derived.Test.YtejniiehfangkaaGreatDoorPlainB
import Derived.Lib.SmallJoins
set_option linter.unusedVariables false
set_option linter.unusedSimpArgs false
namespace Go.Proofs.YtejniiehfangkaaGreatDoor.Bk
/-- Lines of a list of bytes: p: a 13 stands just ahead; cur: the line so far. -/
def linesB : Bool → List UInt8 → List UInt8 → List (List UInt8)
  | _, cur, [] => [cur]
  | p, cur, c :: r => if c.toNat = 13 then cur :: linesB true [] r else if c.toNat = 10 then (if p then linesB false [] r else cur :: linesB false [] r) else linesB false (cur ++ [c]) r
def NoEnd (x : List UInt8) : Prop := ∀ c ∈ x, c.toNat ≠ 13 ∧ c.toNat ≠ 10
theorem linesB_plain : ∀ (x cur r : List UInt8), NoEnd x → linesB false cur (x ++ r) = linesB false (cur ++ x) r
  | [], cur, r, _ => by simp
  | c :: x, cur, r, h => by
    have h0 := h c (by simp)
    rw [List.cons_append, linesB, if_neg h0.1, if_neg h0.2, linesB_plain x (cur ++ [c]) r (fun d hd => h d (by simp [hd]))]
    simp
theorem linesB_end (cur r e : List UInt8) (he : e = [10] ∨ e = [13, 10]) : linesB false cur (e ++ r) = cur :: linesB false [] r := by
  rcases he with rfl | rfl
  · rfl
  · rfl
/-- The bytes a are the first k of the lines xs, each with an end, and the last one without. -/
def Inv (xs : List (List UInt8)) (k : Nat) (a : List UInt8) : Prop :=
  (k < xs.length → ∀ r, linesB false [] (a ++ r) = xs.take k ++ linesB false [] r) ∧ (k = xs.length → linesB false [] a = xs)
theorem Inv.zero (xs : List (List UInt8)) (h : 0 < xs.length) : Inv xs 0 [] := ⟨fun _ r => by simp, fun h0 => by omega⟩
theorem Inv.more {xs : List (List UInt8)} {k : Nat} {a x e : List UInt8} (h : Inv xs k a) (hk : k + 1 < xs.length) (hx : xs[k]? = some x) (hn : NoEnd x) (he : e = [10] ∨ e = [13, 10]) : Inv xs (k + 1) (a ++ x ++ e) := by
  refine ⟨fun _ r => ?_, fun h0 => by omega⟩
  rw [List.append_assoc, List.append_assoc, h.1 (by omega), linesB_plain _ _ _ hn, List.nil_append, linesB_end _ _ _ he, List.take_add_one, hx]
  simp
theorem Inv.last {xs : List (List UInt8)} {k : Nat} {a x : List UInt8} (h : Inv xs k a) (hk : k + 1 = xs.length) (hx : xs[k]? = some x) (hn : NoEnd x) : Inv xs (k + 1) (a ++ x) := by
  refine ⟨fun h0 => by omega, fun _ => ?_⟩
  have e := linesB_plain x [] [] hn
  rw [List.append_nil, List.nil_append] at e
  rw [h.1 (by omega), e]
  have : xs = xs.take k ++ [x] := by
    conv => lhs; rw [← List.take_of_length_le (l := xs) (i := k + 1) (by omega), List.take_add_one, hx]
    rfl
  exact this.symm
def byteAt (s : ByteArray) (i : Nat) : Nat := (s.get! i).toNat
theorem drop_cons (s : ByteArray) (i : Nat) (h : i < s.size) : s.data.toList.drop i = s.get! i :: s.data.toList.drop (i + 1) := by
  rw [List.drop_eq_getElem_cons (by rw [← Lib.size_eq]; exact h), get_bang_data s i h]
theorem ext_next (s : ByteArray) (f i : Nat) (hf : f ≤ i) (h : i < s.size) : (s.extract f (i + 1)).data.toList = (s.extract f i).data.toList ++ [s.get! i] := by
  rw [Lib.extract_data, Lib.extract_data, show i + 1 - f = (i - f) + 1 by omega, List.take_add_one]
  congr 1
  rw [List.getElem?_drop, show f + (i - f) = i by omega, List.getElem?_eq_getElem (by rw [← Lib.size_eq]; exact h), get_bang_data s i h]
  rfl
theorem ext_none (s : ByteArray) (i : Nat) : (s.extract i i).data.toList = [] := by rw [Lib.extract_data]; simp
theorem linesT_B (s : ByteArray) : ∀ (n f i : Nat), n = s.size - i → f ≤ i → i ≤ s.size →
    (linesT s n f i).map (fun x => x.data.toList) = linesB (!(i == 0) && (s.get! (i - 1)).toNat == 13) (s.extract f i).data.toList (s.data.toList.drop i)
  | 0, f, i, hn, hf, hi => by
    obtain rfl : i = s.size := by omega
    rw [List.drop_of_length_le (by rw [Lib.size_eq]; exact Nat.le_refl _)]
    simp [linesT, linesB]
  | n + 1, f, i, hn, hf, hi => by
    have hlt : i < s.size := by omega
    rw [drop_cons s i hlt, linesB, linesT]
    have r1 := linesT_B s n (i + 1) (i + 1) (by omega) (by omega) (by omega)
    have r2 := linesT_B s n f (i + 1) (by omega) (by omega) (by omega)
    rw [ext_none] at r1
    rw [ext_next s f i hf hlt] at r2
    have e0 : (!(i + 1 == 0)) = true := by simp
    rw [e0, Nat.add_sub_cancel, Bool.true_and] at r1 r2
    by_cases h13 : (s.get! i).toNat = 13
    · rw [if_pos (.inl h13), if_pos h13, List.map_cons, r1, h13]; rfl
    · rw [if_neg h13]
      by_cases h10 : (s.get! i).toNat = 10
      · have e13 : ((s.get! i).toNat == 13) = false := by rw [h10]; rfl
        rw [e13] at r1
        by_cases hp : i = 0 ∨ (s.get! (i - 1)).toNat ≠ 13
        · have hq : (!(i == 0) && (s.get! (i - 1)).toNat == 13) = false := by
            rw [Bool.eq_false_iff]; intro hh; simp at hh; omega
          rw [if_pos (.inr ⟨h10, hp⟩), List.map_cons, r1, hq, if_pos h10]; rfl
        · have hq : (!(i == 0) && (s.get! (i - 1)).toNat == 13) = true := by simp; omega
          rw [if_neg (by omega), if_pos h10, r1, hq, if_pos h10]; rfl
      · rw [if_neg (by omega), if_neg h10, r2, if_neg h10]
        have e13 : ((s.get! i).toNat == 13) = false := by simpa using h13
        rw [e13]
theorem lines_bytes (s : ByteArray) : (linesFrom s 0 0).map (fun x => x.data.toList) = linesB false [] s.data.toList := by
  have := linesT_B s (s.size - 0) 0 0 rfl (Nat.le_refl _) (Nat.zero_le _)
  rw [ext_none] at this
  exact this
theorem linesB_one : ∀ (r cur : List UInt8), (linesB false cur r).length = 1 → NoEnd r ∧ linesB false cur r = [cur ++ r]
  | [], cur, _ => ⟨fun c hc => by simp at hc, by simp [linesB]⟩
  | c :: r, cur, h => by
    have hp : ∀ p k l, 0 < (linesB p k l).length := by
      intro p k l
      induction l generalizing p k with
      | nil => simp [linesB]
      | cons d l ih => rw [linesB]; repeat' split
                       all_goals first | exact ih _ _ | simp
    rw [linesB] at h ⊢
    by_cases h13 : c.toNat = 13
    · rw [if_pos h13] at h; have := hp true [] r; rw [List.length_cons] at h; omega
    · rw [if_neg h13] at h ⊢
      by_cases h10 : c.toNat = 10
      · rw [if_pos h10] at h; have := hp false [] r; rw [if_neg (by simp), List.length_cons] at h; omega
      · rw [if_neg h10] at h ⊢
        obtain ⟨a, b⟩ := linesB_one r _ h
        refine ⟨fun d hd => ?_, by rw [b]; simp⟩
        rcases List.mem_cons.1 hd with rfl | hd
        · exact ⟨h13, h10⟩
        · exact a d hd
theorem one_line (x : ByteArray) (h : (linesFrom x 0 0).length = 1) : NoEnd x.data.toList ∧ linesFrom x 0 0 = [x] := by
  have e := lines_bytes x
  have hl : (linesB false [] x.data.toList).length = 1 := by rw [← e]; simpa using h
  obtain ⟨a, b⟩ := linesB_one _ _ hl
  refine ⟨a, ?_⟩
  rw [b, List.nil_append] at e
  obtain ⟨y, hy⟩ := List.length_eq_one_iff.1 h
  rw [hy] at e ⊢
  simp at e
  congr 1
  exact ByteArray.ext e
end Go.Proofs.YtejniiehfangkaaGreatDoor.Bk
