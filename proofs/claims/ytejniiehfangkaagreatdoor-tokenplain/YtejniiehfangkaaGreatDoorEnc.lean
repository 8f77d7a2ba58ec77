/- Runes and their bytes, there and back: no program in it. -/
import Derived.Test.YtejniiehfangkaaGreatDoorPlainC
import Derived.Lib.Builder
import Derived.Lib.UnsafeStr
set_option linter.unusedVariables false
set_option linter.unusedSimpArgs false
namespace Go.Proofs.YtejniiehfangkaaGreatDoor
/-- A number that can be a text's rune. -/
def isR (r : Int) : Bool := decide (0 ≤ r) && decide (r < 55296) || decide (57343 < r) && decide (r ≤ 1114111)
/-- A rune's bytes. -/
def encL (r : Nat) : List UInt8 :=
  if r < 128 then [UInt8.ofNat r] else if r < 2048 then [UInt8.ofNat (192 + r / 64), UInt8.ofNat (128 + r % 64)]
  else if r < 65536 then [UInt8.ofNat (224 + r / 4096), UInt8.ofNat (128 + r / 64 % 64), UInt8.ofNat (128 + r % 64)]
  else [UInt8.ofNat (240 + r / 262144), UInt8.ofNat (128 + r / 4096 % 64), UInt8.ofNat (128 + r / 64 % 64), UInt8.ofNat (128 + r % 64)]
theorem encL_len (r : Nat) : 1 ≤ (encL r).length ∧ (encL r).length ≤ 4 := by unfold encL; repeat' split
                                                                             all_goals simp
theorem u8 (x : Nat) (h : x < 256) : (UInt8.ofNat x).toNat = x := by simp; omega
theorem byteCells_app (a b : List UInt8) : Lib.byteCells (a ++ b) = Lib.byteCells a ++ Lib.byteCells b := by simp [Lib.byteCells]
theorem isR_nat (z : Int) (h : isR z = true) : ((z.toNat : Nat) : Int) = z ∧ isR (z.toNat : Nat) = true := by
  have e : ((z.toNat : Nat) : Int) = z := by simp [isR] at h; omega
  exact ⟨e, by rw [e]; exact h⟩
theorem drop_cons (s : ByteArray) (i : Nat) (h : i < s.size) : s.data.toList.drop i = s.get! i :: s.data.toList.drop (i + 1) := by
  rw [List.drop_eq_getElem_cons (by rw [← Lib.size_eq]; exact h), get_bang_data s i h]
theorem drop_some (s : ByteArray) (i : Nat) (a : UInt8) (t : List UInt8) (h : s.data.toList.drop i = a :: t) : i < s.size ∧ s.get! i = a ∧ s.data.toList.drop (i + 1) = t := by
  have hi : i < s.size := by
    rcases Nat.lt_or_ge i s.size with h' | h'
    · exact h'
    · rw [List.drop_of_length_le (by rw [← Lib.size_eq]; exact h')] at h; cases h
  rw [drop_cons s i hi] at h
  injection h with h1 h2
  exact ⟨hi, h1, h2⟩
theorem class_of (s : ByteArray) (i : Nat) (h : i < s.size) (hb : badAt s i = false) :
    ((s.get! i).toNat < 128 ∧ Utf8.decode s i = ((s.get! i).toNat, 1)) ∨
    ((194 ≤ (s.get! i).toNat ∧ (s.get! i).toNat < 224) ∧ i + 2 ≤ s.size ∧ (128 ≤ (s.get! (i + 1)).toNat ∧ (s.get! (i + 1)).toNat < 192) ∧ Utf8.decode s i = (((s.get! i).toNat - 192) * 64 + ((s.get! (i + 1)).toNat - 128), 2)) ∨
    ((224 ≤ (s.get! i).toNat ∧ (s.get! i).toNat < 240) ∧ i + 3 ≤ s.size ∧ (128 ≤ (s.get! (i + 1)).toNat ∧ (s.get! (i + 1)).toNat < 192) ∧ (128 ≤ (s.get! (i + 2)).toNat ∧ (s.get! (i + 2)).toNat < 192) ∧
      (2048 ≤ (((s.get! i).toNat - 224) * 64 + ((s.get! (i + 1)).toNat - 128)) * 64 + ((s.get! (i + 2)).toNat - 128) ∧ ¬ (55296 ≤ (((s.get! i).toNat - 224) * 64 + ((s.get! (i + 1)).toNat - 128)) * 64 + ((s.get! (i + 2)).toNat - 128) ∧ (((s.get! i).toNat - 224) * 64 + ((s.get! (i + 1)).toNat - 128)) * 64 + ((s.get! (i + 2)).toNat - 128) < 57344)) ∧
      Utf8.decode s i = ((((s.get! i).toNat - 224) * 64 + ((s.get! (i + 1)).toNat - 128)) * 64 + ((s.get! (i + 2)).toNat - 128), 3)) ∨
    ((240 ≤ (s.get! i).toNat ∧ (s.get! i).toNat < 245) ∧ i + 4 ≤ s.size ∧ (128 ≤ (s.get! (i + 1)).toNat ∧ (s.get! (i + 1)).toNat < 192) ∧ (128 ≤ (s.get! (i + 2)).toNat ∧ (s.get! (i + 2)).toNat < 192) ∧ (128 ≤ (s.get! (i + 3)).toNat ∧ (s.get! (i + 3)).toNat < 192) ∧
      (65536 ≤ ((((s.get! i).toNat - 240) * 64 + ((s.get! (i + 1)).toNat - 128)) * 64 + ((s.get! (i + 2)).toNat - 128)) * 64 + ((s.get! (i + 3)).toNat - 128) ∧ ((((s.get! i).toNat - 240) * 64 + ((s.get! (i + 1)).toNat - 128)) * 64 + ((s.get! (i + 2)).toNat - 128)) * 64 + ((s.get! (i + 3)).toNat - 128) ≤ 1114111) ∧
      Utf8.decode s i = (((((s.get! i).toNat - 240) * 64 + ((s.get! (i + 1)).toNat - 128)) * 64 + ((s.get! (i + 2)).toNat - 128)) * 64 + ((s.get! (i + 3)).toNat - 128), 4)) := by
  have g0 := get_lt s i; have g1 := get_lt s (i + 1); have g2 := get_lt s (i + 2); have g3 := get_lt s (i + 3)
  have hne : Utf8.decode s i ≠ (65533, 1) := fun e => by rw [(bad_iff s i).2 e] at hb; cases hb
  by_cases c1 : (s.get! i).toNat < 128
  · exact .inl ⟨c1, (size_one s i h c1).1⟩
  · by_cases c2 : (s.get! i).toNat < 194 ∨ 245 ≤ (s.get! i).toNat
    · have := size_none s i h (by omega); rw [this] at hb; cases hb
    · rw [Lib.decode_at] at hne ⊢
      by_cases c3 : (s.get! i).toNat < 224
      · rw [decN_two _ _ _ _ _ g0 g1 g2 g3 ⟨by omega, c3⟩] at hne ⊢
        split at hne
        · rename_i hc
          rw [if_pos hc]
          exact .inr (.inl ⟨⟨by omega, c3⟩, by omega, hc.2, rfl⟩)
        · exact absurd rfl hne
      · by_cases c4 : (s.get! i).toNat < 240
        · rw [decN_three _ _ _ _ _ g0 g1 g2 g3 ⟨by omega, c4⟩] at hne ⊢
          split at hne
          · rename_i hc
            rw [if_pos hc]
            exact .inr (.inr (.inl ⟨⟨by omega, c4⟩, by omega, hc.2.1, hc.2.2.1, hc.2.2.2, rfl⟩))
          · exact absurd rfl hne
        · rw [decN_four _ _ _ _ _ g0 g1 g2 g3 ⟨by omega, by omega⟩] at hne ⊢
          split at hne
          · rename_i hc
            rw [if_pos hc]
            exact .inr (.inr (.inr ⟨⟨by omega, by omega⟩, by omega, hc.2.1, hc.2.2.1, hc.2.2.2.1, hc.2.2.2.2, rfl⟩))
          · exact absurd rfl hne
theorem of_toNat (a : UInt8) (x : Nat) (h : x = a.toNat) : UInt8.ofNat x = a := by rw [h]; exact UInt8.ofNat_toNat
/-- A rune that stands there is its bytes. -/
theorem enc_dec (s : ByteArray) (i : Nat) (h : i < s.size) (hb : badAt s i = false) :
    isR (Utf8.decode s i).1 = true ∧ s.data.toList.drop i = encL (Utf8.decode s i).1 ++ s.data.toList.drop (i + (Utf8.decode s i).2) := by
  have g0 := get_lt s i; have g1 := get_lt s (i + 1); have g2 := get_lt s (i + 2); have g3 := get_lt s (i + 3)
  rcases class_of s i h hb with ⟨a, e⟩ | ⟨a, r, c1, e⟩ | ⟨a, r, c1, c2, f, e⟩ | ⟨a, r, c1, c2, c3, f, e⟩
  · rw [e]
    refine ⟨by simp [isR]; omega, ?_⟩
    rw [drop_cons s i h]
    simp only [encL]
    rw [if_pos a, of_toNat (s.get! i) _ rfl]; rfl
  · rw [e]
    refine ⟨by simp [isR]; omega, ?_⟩
    rw [drop_cons s i h, drop_cons s (i + 1) (by omega)]
    simp only [encL]
    rw [if_neg (by omega), if_pos (by omega), of_toNat (s.get! i) _ (by omega), of_toNat (s.get! (i + 1)) _ (by omega)]; rfl
  · rw [e]
    refine ⟨by simp [isR]; omega, ?_⟩
    rw [drop_cons s i h, drop_cons s (i + 1) (by omega), drop_cons s (i + 1 + 1) (by omega)]
    simp only [encL]
    rw [if_neg (by omega), if_neg (by omega), if_pos (by omega), of_toNat (s.get! i) _ (by omega), of_toNat (s.get! (i + 1)) _ (by omega), of_toNat (s.get! (i + 2)) _ (by omega)]; rfl
  · rw [e]
    refine ⟨by simp [isR]; omega, ?_⟩
    rw [drop_cons s i h, drop_cons s (i + 1) (by omega), drop_cons s (i + 1 + 1) (by omega), drop_cons s (i + 1 + 1 + 1) (by omega)]
    simp only [encL]
    rw [if_neg (by omega), if_neg (by omega), if_neg (by omega), of_toNat (s.get! i) _ (by omega), of_toNat (s.get! (i + 1)) _ (by omega), of_toNat (s.get! (i + 2)) _ (by omega), of_toNat (s.get! (i + 3)) _ (by omega)]; rfl
/-- The bytes of a rune, wherever they stand, are read as that rune. -/
theorem dec_enc (s : ByteArray) (i r : Nat) (hr : isR r = true) (t : List UInt8) (h : s.data.toList.drop i = encL r ++ t) : i < s.size ∧ Utf8.decode s i = (r, (encL r).length) ∧ badAt s i = false := by
  have hr' : (0 ≤ (r : Int) ∧ (r : Int) < 55296) ∨ (57343 < (r : Int) ∧ (r : Int) ≤ 1114111) := by simpa [isR] using hr
  have g0 := get_lt s i; have g1 := get_lt s (i + 1); have g2 := get_lt s (i + 2); have g3 := get_lt s (i + 3)
  have fin : ∀ V m : Nat, m ≠ 1 → Utf8.decode s i = (V, m) → badAt s i = false := fun V m hm e => by
    rw [Bool.eq_false_iff, ne_eq, bad_iff, e]; intro e1; exact hm (Prod.ext_iff.1 e1).2
  by_cases h1 : r < 128
  · have e : encL r = [UInt8.ofNat r] := by unfold encL; rw [if_pos h1]
    rw [e] at h ⊢
    obtain ⟨hi, e0, _⟩ := drop_some s i _ _ h
    have b0 : (s.get! i).toNat = r := by rw [e0]; exact u8 r (by omega)
    have := size_one s i hi (by omega)
    rw [b0] at this
    exact ⟨hi, this.1, this.2⟩
  · by_cases h2 : r < 2048
    · have e : encL r = [UInt8.ofNat (192 + r / 64), UInt8.ofNat (128 + r % 64)] := by unfold encL; rw [if_neg h1, if_pos h2]
      rw [e] at h ⊢
      obtain ⟨hi, e0, d1⟩ := drop_some s i _ _ h
      obtain ⟨hi1, e1, _⟩ := drop_some s (i + 1) _ _ d1
      have b0 : (s.get! i).toNat = 192 + r / 64 := by rw [e0]; exact u8 _ (by omega)
      have b1 : (s.get! (i + 1)).toNat = 128 + r % 64 := by rw [e1]; exact u8 _ (by omega)
      have key : Utf8.decode s i = (r, 2) := by
        rw [Lib.decode_at, decN_two _ _ _ _ _ g0 g1 g2 g3 (by omega), if_pos (by omega)]
        exact Prod.ext (by simp only; omega) rfl
      exact ⟨hi, key, fin r 2 (by decide) key⟩
    · by_cases h3 : r < 65536
      · have e : encL r = [UInt8.ofNat (224 + r / 4096), UInt8.ofNat (128 + r / 64 % 64), UInt8.ofNat (128 + r % 64)] := by unfold encL; rw [if_neg h1, if_neg h2, if_pos h3]
        rw [e] at h ⊢
        obtain ⟨hi, e0, d1⟩ := drop_some s i _ _ h
        obtain ⟨hi1, e1, d2⟩ := drop_some s (i + 1) _ _ d1
        obtain ⟨hi2, e2, _⟩ := drop_some s (i + 1 + 1) _ _ d2
        have b0 : (s.get! i).toNat = 224 + r / 4096 := by rw [e0]; exact u8 _ (by omega)
        have b1 : (s.get! (i + 1)).toNat = 128 + r / 64 % 64 := by rw [e1]; exact u8 _ (by omega)
        have b2 : (s.get! (i + 2)).toNat = 128 + r % 64 := by show (s.get! (i + 1 + 1)).toNat = _; rw [e2]; exact u8 _ (by omega)
        have key : Utf8.decode s i = (r, 3) := by
          rw [Lib.decode_at, decN_three _ _ _ _ _ g0 g1 g2 g3 (by omega), if_pos (by omega)]
          exact Prod.ext (by simp only; omega) rfl
        exact ⟨hi, key, fin r 3 (by decide) key⟩
      · have e : encL r = [UInt8.ofNat (240 + r / 262144), UInt8.ofNat (128 + r / 4096 % 64), UInt8.ofNat (128 + r / 64 % 64), UInt8.ofNat (128 + r % 64)] := by unfold encL; rw [if_neg h1, if_neg h2, if_neg h3]
        rw [e] at h ⊢
        obtain ⟨hi, e0, d1⟩ := drop_some s i _ _ h
        obtain ⟨hi1, e1, d2⟩ := drop_some s (i + 1) _ _ d1
        obtain ⟨hi2, e2, d3⟩ := drop_some s (i + 1 + 1) _ _ d2
        obtain ⟨hi3, e3, _⟩ := drop_some s (i + 1 + 1 + 1) _ _ d3
        have b0 : (s.get! i).toNat = 240 + r / 262144 := by rw [e0]; exact u8 _ (by omega)
        have b1 : (s.get! (i + 1)).toNat = 128 + r / 4096 % 64 := by rw [e1]; exact u8 _ (by omega)
        have b2 : (s.get! (i + 2)).toNat = 128 + r / 64 % 64 := by show (s.get! (i + 1 + 1)).toNat = _; rw [e2]; exact u8 _ (by omega)
        have b3 : (s.get! (i + 3)).toNat = 128 + r % 64 := by show (s.get! (i + 1 + 1 + 1)).toNat = _; rw [e3]; exact u8 _ (by omega)
        have key : Utf8.decode s i = (r, 4) := by
          rw [Lib.decode_at, decN_four _ _ _ _ _ g0 g1 g2 g3 (by omega), if_pos (by omega)]
          exact Prod.ext (by simp only; omega) rfl
        exact ⟨hi, key, fin r 4 (by decide) key⟩
end Go.Proofs.YtejniiehfangkaaGreatDoor
