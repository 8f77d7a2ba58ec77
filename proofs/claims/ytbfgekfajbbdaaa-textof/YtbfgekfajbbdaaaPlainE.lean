/- Runes and their bytes, there and back: no program's step in it. -/
import Derived.Test.YtbfgekfajbbdaaaWalksM
import Derived.Test.YtbfgekfajbbdaaaPlainD
set_option linter.unusedVariables false
set_option linter.unusedSimpArgs false
namespace Go.Proofs.Ytbfgekfajbbdaaa
theorem drop_some (s : ByteArray) (i : Nat) (a : UInt8) (t : List UInt8) (h : s.data.toList.drop i = a :: t) : i < s.size ∧ s.get! i = a ∧ s.data.toList.drop (i + 1) = t := by
  have hi : i < s.size := by
    rcases Nat.lt_or_ge i s.size with h' | h'
    · exact h'
    · rw [List.drop_of_length_le (by rw [← Lib.size_eq]; exact h')] at h; cases h
  rw [drop_cons s i hi] at h
  injection h with h1 h2
  exact ⟨hi, h1, h2⟩
theorem class_of (s : ByteArray) (i : Nat) (h : i < s.size) (hb : badAt s i = false) :
    ((s.get! i).toNat < 128 ∧ Utf8.decode s i = ((s.get! i).toNat, 1)) ∨
    ((194 ≤ (s.get! i).toNat ∧ (s.get! i).toNat < 224) ∧ i + 2 ≤ s.size ∧ (128 ≤ (s.get! (i + 1)).toNat ∧ (s.get! (i + 1)).toNat < 192) ∧ Utf8.decode s i = (((s.get! i).toNat - 192) * 64 + ((s.get! (i + 1)).toNat - 128), 2)) ∨
    ((224 ≤ (s.get! i).toNat ∧ (s.get! i).toNat < 240) ∧ i + 3 ≤ s.size ∧ (128 ≤ (s.get! (i + 1)).toNat ∧ (s.get! (i + 1)).toNat < 192) ∧ (128 ≤ (s.get! (i + 2)).toNat ∧ (s.get! (i + 2)).toNat < 192) ∧
      (2048 ≤ (((s.get! i).toNat - 224) * 64 + ((s.get! (i + 1)).toNat - 128)) * 64 + ((s.get! (i + 2)).toNat - 128) ∧ ¬ (55296 ≤ (((s.get! i).toNat - 224) * 64 + ((s.get! (i + 1)).toNat - 128)) * 64 + ((s.get! (i + 2)).toNat - 128) ∧ (((s.get! i).toNat - 224) * 64 + ((s.get! (i + 1)).toNat - 128)) * 64 + ((s.get! (i + 2)).toNat - 128) < 57344)) ∧
      Utf8.decode s i = ((((s.get! i).toNat - 224) * 64 + ((s.get! (i + 1)).toNat - 128)) * 64 + ((s.get! (i + 2)).toNat - 128), 3)) ∨
    ((240 ≤ (s.get! i).toNat ∧ (s.get! i).toNat < 245) ∧ i + 4 ≤ s.size ∧ (128 ≤ (s.get! (i + 1)).toNat ∧ (s.get! (i + 1)).toNat < 192) ∧ (128 ≤ (s.get! (i + 2)).toNat ∧ (s.get! (i + 2)).toNat < 192) ∧ (128 ≤ (s.get! (i + 3)).toNat ∧ (s.get! (i + 3)).toNat < 192) ∧
      (65536 ≤ ((((s.get! i).toNat - 240) * 64 + ((s.get! (i + 1)).toNat - 128)) * 64 + ((s.get! (i + 2)).toNat - 128)) * 64 + ((s.get! (i + 3)).toNat - 128) ∧ ((((s.get! i).toNat - 240) * 64 + ((s.get! (i + 1)).toNat - 128)) * 64 + ((s.get! (i + 2)).toNat - 128)) * 64 + ((s.get! (i + 3)).toNat - 128) ≤ 1114111) ∧
      Utf8.decode s i = (((((s.get! i).toNat - 240) * 64 + ((s.get! (i + 1)).toNat - 128)) * 64 + ((s.get! (i + 2)).toNat - 128)) * 64 + ((s.get! (i + 3)).toNat - 128), 4)) := by
  have g0 := get_lt s i; have g1 := get_lt s (i + 1); have g2 := get_lt s (i + 2); have g3 := get_lt s (i + 3)
  have hne : Utf8.decode s i ≠ (65533, 1) := fun e => by rw [(bad_iff s i).2 e] at hb; cases hb
  by_cases c1 : (s.get! i).toNat < 128
  · exact .inl ⟨c1, (size_one s i h c1).1⟩
  · by_cases c2 : (s.get! i).toNat < 194 ∨ 245 ≤ (s.get! i).toNat
    · have := size_none s i h (by omega); rw [this] at hb; cases hb
    · rw [Lib.decode_at] at hne ⊢
      by_cases c3 : (s.get! i).toNat < 224
      · rw [decN_two _ _ _ _ _ g0 g1 g2 g3 ⟨by omega, c3⟩] at hne ⊢
        split at hne
        · rename_i hc
          rw [if_pos hc]
          exact .inr (.inl ⟨⟨by omega, c3⟩, by omega, hc.2, rfl⟩)
        · exact absurd rfl hne
      · by_cases c4 : (s.get! i).toNat < 240
        · rw [decN_three _ _ _ _ _ g0 g1 g2 g3 ⟨by omega, c4⟩] at hne ⊢
          split at hne
          · rename_i hc
            rw [if_pos hc]
            exact .inr (.inr (.inl ⟨⟨by omega, c4⟩, by omega, hc.2.1, hc.2.2.1, hc.2.2.2, rfl⟩))
          · exact absurd rfl hne
        · rw [decN_four _ _ _ _ _ g0 g1 g2 g3 ⟨by omega, by omega⟩] at hne ⊢
          split at hne
          · rename_i hc
            rw [if_pos hc]
            exact .inr (.inr (.inr ⟨⟨by omega, by omega⟩, by omega, hc.2.1, hc.2.2.1, hc.2.2.2.1, hc.2.2.2.2, rfl⟩))
          · exact absurd rfl hne
theorem of_toNat (a : UInt8) (x : Nat) (h : x = a.toNat) : UInt8.ofNat x = a := by rw [h]; exact UInt8.ofNat_toNat
/-- A rune that stands there is its bytes. -/
theorem enc_dec (s : ByteArray) (i : Nat) (h : i < s.size) (hb : badAt s i = false) :
    isR (Utf8.decode s i).1 = true ∧ s.data.toList.drop i = encL (Utf8.decode s i).1 ++ s.data.toList.drop (i + (Utf8.decode s i).2) := by
  have g0 := get_lt s i; have g1 := get_lt s (i + 1); have g2 := get_lt s (i + 2); have g3 := get_lt s (i + 3)
  rcases class_of s i h hb with ⟨a, e⟩ | ⟨a, r, c1, e⟩ | ⟨a, r, c1, c2, f, e⟩ | ⟨a, r, c1, c2, c3, f, e⟩
  · rw [e]
    refine ⟨by simp [isR]; omega, ?_⟩
    rw [drop_cons s i h]
    simp only [encL]
    rw [if_pos a, of_toNat (s.get! i) _ rfl]; rfl
  · rw [e]
    refine ⟨by simp [isR]; omega, ?_⟩
    rw [drop_cons s i h, drop_cons s (i + 1) (by omega)]
    simp only [encL]
    rw [if_neg (by omega), if_pos (by omega), of_toNat (s.get! i) _ (by omega), of_toNat (s.get! (i + 1)) _ (by omega)]; rfl
  · rw [e]
    refine ⟨by simp [isR]; omega, ?_⟩
    rw [drop_cons s i h, drop_cons s (i + 1) (by omega), drop_cons s (i + 1 + 1) (by omega)]
    simp only [encL]
    rw [if_neg (by omega), if_neg (by omega), if_pos (by omega), of_toNat (s.get! i) _ (by omega), of_toNat (s.get! (i + 1)) _ (by omega), of_toNat (s.get! (i + 2)) _ (by omega)]; rfl
  · rw [e]
    refine ⟨by simp [isR]; omega, ?_⟩
    rw [drop_cons s i h, drop_cons s (i + 1) (by omega), drop_cons s (i + 1 + 1) (by omega), drop_cons s (i + 1 + 1 + 1) (by omega)]
    simp only [encL]
    rw [if_neg (by omega), if_neg (by omega), if_neg (by omega), of_toNat (s.get! i) _ (by omega), of_toNat (s.get! (i + 1)) _ (by omega), of_toNat (s.get! (i + 2)) _ (by omega), of_toNat (s.get! (i + 3)) _ (by omega)]; rfl
/-- The bytes of a rune, wherever they stand, are read as that rune. -/
theorem dec_enc (s : ByteArray) (i r : Nat) (hr : isR r = true) (t : List UInt8) (h : s.data.toList.drop i = encL r ++ t) : i < s.size ∧ Utf8.decode s i = (r, (encL r).length) ∧ badAt s i = false := by
  have hr' : (0 ≤ (r : Int) ∧ (r : Int) < 55296) ∨ (57343 < (r : Int) ∧ (r : Int) ≤ 1114111) := by simpa [isR] using hr
  have g0 := get_lt s i; have g1 := get_lt s (i + 1); have g2 := get_lt s (i + 2); have g3 := get_lt s (i + 3)
  have fin : ∀ V m : Nat, m ≠ 1 → Utf8.decode s i = (V, m) → badAt s i = false := fun V m hm e => by
    rw [Bool.eq_false_iff, ne_eq, bad_iff, e]; intro e1; exact hm (Prod.ext_iff.1 e1).2
  by_cases h1 : r < 128
  · have e : encL r = [UInt8.ofNat r] := by unfold encL; rw [if_pos h1]
    rw [e] at h ⊢
    obtain ⟨hi, e0, _⟩ := drop_some s i _ _ h
    have b0 : (s.get! i).toNat = r := by rw [e0]; exact u8 r (by omega)
    have := size_one s i hi (by omega)
    rw [b0] at this
    exact ⟨hi, this.1, this.2⟩
  · by_cases h2 : r < 2048
    · have e : encL r = [UInt8.ofNat (192 + r / 64), UInt8.ofNat (128 + r % 64)] := by unfold encL; rw [if_neg h1, if_pos h2]
      rw [e] at h ⊢
      obtain ⟨hi, e0, d1⟩ := drop_some s i _ _ h
      obtain ⟨hi1, e1, _⟩ := drop_some s (i + 1) _ _ d1
      have b0 : (s.get! i).toNat = 192 + r / 64 := by rw [e0]; exact u8 _ (by omega)
      have b1 : (s.get! (i + 1)).toNat = 128 + r % 64 := by rw [e1]; exact u8 _ (by omega)
      have key : Utf8.decode s i = (r, 2) := by
        rw [Lib.decode_at, decN_two _ _ _ _ _ g0 g1 g2 g3 (by omega), if_pos (by omega)]
        exact Prod.ext (by simp only; omega) rfl
      exact ⟨hi, key, fin r 2 (by decide) key⟩
    · by_cases h3 : r < 65536
      · have e : encL r = [UInt8.ofNat (224 + r / 4096), UInt8.ofNat (128 + r / 64 % 64), UInt8.ofNat (128 + r % 64)] := by unfold encL; rw [if_neg h1, if_neg h2, if_pos h3]
        rw [e] at h ⊢
        obtain ⟨hi, e0, d1⟩ := drop_some s i _ _ h
        obtain ⟨hi1, e1, d2⟩ := drop_some s (i + 1) _ _ d1
        obtain ⟨hi2, e2, _⟩ := drop_some s (i + 1 + 1) _ _ d2
        have b0 : (s.get! i).toNat = 224 + r / 4096 := by rw [e0]; exact u8 _ (by omega)
        have b1 : (s.get! (i + 1)).toNat = 128 + r / 64 % 64 := by rw [e1]; exact u8 _ (by omega)
        have b2 : (s.get! (i + 2)).toNat = 128 + r % 64 := by show (s.get! (i + 1 + 1)).toNat = _; rw [e2]; exact u8 _ (by omega)
        have key : Utf8.decode s i = (r, 3) := by
          rw [Lib.decode_at, decN_three _ _ _ _ _ g0 g1 g2 g3 (by omega), if_pos (by omega)]
          exact Prod.ext (by simp only; omega) rfl
        exact ⟨hi, key, fin r 3 (by decide) key⟩
      · have e : encL r = [UInt8.ofNat (240 + r / 262144), UInt8.ofNat (128 + r / 4096 % 64), UInt8.ofNat (128 + r / 64 % 64), UInt8.ofNat (128 + r % 64)] := by unfold encL; rw [if_neg h1, if_neg h2, if_neg h3]
        rw [e] at h ⊢
        obtain ⟨hi, e0, d1⟩ := drop_some s i _ _ h
        obtain ⟨hi1, e1, d2⟩ := drop_some s (i + 1) _ _ d1
        obtain ⟨hi2, e2, d3⟩ := drop_some s (i + 1 + 1) _ _ d2
        obtain ⟨hi3, e3, _⟩ := drop_some s (i + 1 + 1 + 1) _ _ d3
        have b0 : (s.get! i).toNat = 240 + r / 262144 := by rw [e0]; exact u8 _ (by omega)
        have b1 : (s.get! (i + 1)).toNat = 128 + r / 4096 % 64 := by rw [e1]; exact u8 _ (by omega)
        have b2 : (s.get! (i + 2)).toNat = 128 + r / 64 % 64 := by show (s.get! (i + 1 + 1)).toNat = _; rw [e2]; exact u8 _ (by omega)
        have b3 : (s.get! (i + 3)).toNat = 128 + r % 64 := by show (s.get! (i + 1 + 1 + 1)).toNat = _; rw [e3]; exact u8 _ (by omega)
        have key : Utf8.decode s i = (r, 4) := by
          rw [Lib.decode_at, decN_four _ _ _ _ _ g0 g1 g2 g3 (by omega), if_pos (by omega)]
          exact Prod.ext (by simp only; omega) rfl
        exact ⟨hi, key, fin r 4 (by decide) key⟩
def ints (l : List Nat) : List Int := l.map fun (r : Nat) => (r : Int)
/-- A text's runes are runes, and their bytes are the text. -/
theorem runes_back (s : ByteArray) : ∀ g i, s.size < i + g → badF s g i = -1 → (ints (runesF s g i)).all isR = true ∧ ofS (ints (runesF s g i)) = s.data.toList.drop i
  | 0, i, hg, _ => by
    refine ⟨rfl, ?_⟩
    rw [List.drop_of_length_le (by rw [← Lib.size_eq]; omega)]; rfl
  | g + 1, i, hg, hb => by
    by_cases hi : i < s.size
    · have hba : badAt s i = false := by
        cases h : badAt s i
        · rfl
        · rw [badF_hit s (g + 1) i hi hg h] at hb; omega
      rw [badF, if_pos hi, hba] at hb
      have hw := (dec_in s i hi).1
      obtain ⟨h1, h2⟩ := runes_back s g (i + (Utf8.decode s i).2) (by omega) (by simpa using hb)
      obtain ⟨k1, k2⟩ := enc_dec s i hi hba
      rw [runesF, if_pos hi]
      refine ⟨?_, ?_⟩
      · simp only [ints, List.map_cons, List.all_cons, Bool.and_eq_true] at h1 ⊢
        exact ⟨k1, h1⟩
      · rw [k2, ← h2]
        simp [ints, ofS]
    · rw [runesF_end s _ i hi, List.drop_of_length_le (by rw [← Lib.size_eq]; omega)]
      exact ⟨rfl, rfl⟩
theorem right_back (s : ByteArray) (h : rightB s = true) : (ints (runesI s)).all isR = true ∧ ofS (ints (runesI s)) = s.data.toList := by
  have hb : badI s = -1 := by rw [right_iff] at h; simpa using h
  have := runes_back s (s.size + 1) 0 (by omega) hb
  unfold runesI; rw [h]
  exact this
/-- Runes' bytes are a text, and those are its runes. -/
theorem text_back (s : ByteArray) : ∀ (zs : List Int) (g i : Nat), zs.all isR = true → s.size < i + g → s.data.toList.drop i = ofS zs → badF s g i = -1 ∧ ints (runesF s g i) = zs
  | [], g, i, _, hg, hd => by
    have hi : ¬ i < s.size := fun hi => by
      rw [drop_cons s i hi] at hd; cases hd
    exact ⟨badF_end s g i hi, by rw [runesF_end s g i hi]; rfl⟩
  | z :: zs, g, i, ha, hg, hd => by
    simp only [List.all_cons, Bool.and_eq_true] at ha
    obtain ⟨hzn, hzr⟩ := isR_nat z ha.1
    have hd' : s.data.toList.drop i = encL z.toNat ++ ofS zs := by rw [hd]; rfl
    obtain ⟨hi, hdec, hba⟩ := dec_enc s i z.toNat hzr (ofS zs) hd'
    have hl := (encL_len z.toNat).1
    have hd2 : s.data.toList.drop (i + (encL z.toNat).length) = ofS zs := by
      rw [← List.drop_drop, hd', List.drop_left]
    cases g with
    | zero => omega
    | succ g =>
      obtain ⟨r1, r2⟩ := text_back s zs g (i + (encL z.toNat).length) ha.2 (by omega) hd2
      rw [badF, if_pos hi, hba, runesF, if_pos hi, hdec]
      refine ⟨by simpa using r1, ?_⟩
      simp only [ints, List.map_cons] at r2 ⊢
      rw [r2, hzn]
theorem of_back (zs : List Int) (h : zs.all isR = true) : rightB ⟨(ofS zs).toArray⟩ = true ∧ ints (runesI ⟨(ofS zs).toArray⟩) = zs := by
  have := text_back ⟨(ofS zs).toArray⟩ zs ((⟨(ofS zs).toArray⟩ : ByteArray).size + 1) 0 h (by omega) (by simp)
  have hr : rightB ⟨(ofS zs).toArray⟩ = true := by rw [right_iff]; unfold badI; rw [this.1]; rfl
  refine ⟨hr, ?_⟩
  unfold runesI; rw [hr]
  exact this.2
/-- What stands ahead of the first byte that begins no rune is a text. -/
theorem ahead (s : ByteArray) (b : Nat) : ∀ g i, s.size < i + g → badF s g i = (b : Int) → i ≤ b ∧ b < s.size ∧ ∃ zs : List Int, zs.all isR = true ∧ (s.data.toList.drop i).take (b - i) = ofS zs
  | 0, i, hg, hb => by simp only [badF] at hb; omega
  | g + 1, i, hg, hb => by
    by_cases hi : i < s.size
    · cases hba : badAt s i
      · rw [badF, if_pos hi, hba] at hb
        have hw := (dec_in s i hi).1
        obtain ⟨h1, h2, zs, h3, h4⟩ := ahead s b g (i + (Utf8.decode s i).2) (by omega) (by simpa using hb)
        obtain ⟨k1, k2⟩ := enc_dec s i hi hba
        have hlen : (encL (Utf8.decode s i).1).length = (Utf8.decode s i).2 := by
          have e := congrArg List.length k2
          rw [List.length_append, List.length_drop, List.length_drop, ← Lib.size_eq] at e
          have := (dec_in s i hi).2.1
          omega
        refine ⟨by omega, h2, ((Utf8.decode s i).1 : Int) :: zs, by simp only [List.all_cons, k1, h3]; rfl, ?_⟩
        rw [k2, List.take_append, List.take_of_length_le (by omega), hlen, show b - i - (Utf8.decode s i).2 = b - (i + (Utf8.decode s i).2) by omega, h4]
        rfl
      · rw [badF_hit s (g + 1) i hi hg hba] at hb
        obtain rfl : i = b := by omega
        exact ⟨Nat.le_refl _, hi, [], rfl, by simp [ofS]⟩
    · rw [badF_end s _ i hi] at hb; omega
theorem ahead_right (s : ByteArray) (b : Nat) (h : badI s = (b : Int)) : b < s.size ∧ rightB (s.extract 0 b) = true := by
  obtain ⟨_, h2, zs, h3, h4⟩ := ahead s b (s.size + 1) 0 (by omega) h
  refine ⟨h2, ?_⟩
  have e : s.extract 0 b = ⟨(ofS zs).toArray⟩ := by
    rw [Lib.extract_eq, ← h4]
  rw [e]
  exact (of_back zs h3).1
end Go.Proofs.Ytbfgekfajbbdaaa
