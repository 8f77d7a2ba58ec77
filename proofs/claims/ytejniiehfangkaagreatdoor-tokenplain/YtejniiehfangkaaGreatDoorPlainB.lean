/- Plain facts on lines: no program in it. -/
import Derived.Test.YtejniiehfangkaaGreatDoorPlain
set_option linter.unusedVariables false
set_option linter.unusedSimpArgs false
namespace Go.Proofs.YtejniiehfangkaaGreatDoor
/-- What stands between line ends from i on, the line having begun at f. -/
def linesT (s : ByteArray) : Nat → Nat → Nat → List ByteArray
  | 0, f, _ => [s.extract f s.size]
  | n + 1, f, i =>
    if (s.get! i).toNat = 13 ∨ ((s.get! i).toNat = 10 ∧ (i = 0 ∨ (s.get! (i - 1)).toNat ≠ 13)) then s.extract f i :: linesT s n (i + 1) (i + 1)
    else if (s.get! i).toNat = 10 then linesT s n (i + 1) (i + 1)
    else linesT s n f (i + 1)
def linesFrom (s : ByteArray) (f i : Nat) : List ByteArray := linesT s (s.size - i) f i
theorem lf_end (s : ByteArray) (f i : Nat) (h : ¬ i < s.size) : linesFrom s f i = [s.extract f s.size] := by
  unfold linesFrom; rw [show s.size - i = 0 by omega]; rfl
theorem lf_cut (s : ByteArray) (f i : Nat) (h : i < s.size) (hc : (s.get! i).toNat = 13 ∨ ((s.get! i).toNat = 10 ∧ (i = 0 ∨ (s.get! (i - 1)).toNat ≠ 13))) :
    linesFrom s f i = s.extract f i :: linesFrom s (i + 1) (i + 1) := by
  unfold linesFrom; rw [show s.size - i = (s.size - (i + 1)) + 1 by omega]; rw [linesT, if_pos hc]
theorem lf_skip (s : ByteArray) (f i : Nat) (h : i < s.size) (hc : (s.get! i).toNat = 10) (h0 : i ≠ 0) (hp : (s.get! (i - 1)).toNat = 13) :
    linesFrom s f i = linesFrom s (i + 1) (i + 1) := by
  unfold linesFrom; rw [show s.size - i = (s.size - (i + 1)) + 1 by omega]; rw [linesT, if_neg (by omega), if_pos hc]
theorem lf_one (s : ByteArray) (f i : Nat) (h : i < s.size) (h1 : (s.get! i).toNat ≠ 13) (h2 : (s.get! i).toNat ≠ 10) : linesFrom s f i = linesFrom s f (i + 1) := by
  unfold linesFrom; rw [show s.size - i = (s.size - (i + 1)) + 1 by omega]; rw [linesT, if_neg (by omega), if_neg h2]
theorem lf_high (s : ByteArray) (f : Nat) : ∀ (k i : Nat), i + k ≤ s.size → (∀ j, j < k → 128 ≤ (s.get! (i + j)).toNat) → linesFrom s f i = linesFrom s f (i + k)
  | 0, i, _, _ => rfl
  | k + 1, i, hk, hb => by
    have h0 := hb 0 (by omega)
    rw [Nat.add_zero] at h0
    rw [lf_one s f i (by omega) (by omega) (by omega), lf_high s f k (i + 1) (by omega) (fun j hj => by have := hb (j + 1) (by omega); rwa [show i + 1 + j = i + (j + 1) by omega]), show i + 1 + k = i + (k + 1) by omega]
set_option maxRecDepth 100000 in
set_option maxHeartbeats 2000000 in
theorem dec_width (n b0 b1 b2 b3 : Nat) (hn : 1 ≤ n) (h0 : b0 < 256) (h1 : b1 < 256) (h2 : b2 < 256) (h3 : b3 < 256) :
    1 ≤ (Lib.decodeN n b0 b1 b2 b3).2 ∧ (Lib.decodeN n b0 b1 b2 b3).2 ≤ n ∧ (Lib.decodeN n b0 b1 b2 b3).2 ≤ 4 ∧ (1 < (Lib.decodeN n b0 b1 b2 b3).2 → 128 ≤ b1) ∧ (2 < (Lib.decodeN n b0 b1 b2 b3).2 → 128 ≤ b2) ∧ (3 < (Lib.decodeN n b0 b1 b2 b3).2 → 128 ≤ b3) := by
  unfold Lib.decodeN
  repeat' split
  all_goals (simp only; omega)
theorem dec_in (s : ByteArray) (i : Nat) (h : i < s.size) : 1 ≤ (Utf8.decode s i).2 ∧ i + (Utf8.decode s i).2 ≤ s.size ∧ (128 ≤ (s.get! i).toNat → ∀ j, j < (Utf8.decode s i).2 → 128 ≤ (s.get! (i + j)).toNat) := by
  have hd := dec_width (s.size - i) _ _ _ _ (by omega) (get_lt s i) (get_lt s (i + 1)) (get_lt s (i + 2)) (get_lt s (i + 3))
  rw [← Lib.decode_at] at hd
  refine ⟨hd.1, by omega, fun hh j hj => ?_⟩
  match j, hj with
  | 0, _ => simpa using hh
  | 1, hj => exact hd.2.2.2.1 (by omega)
  | 2, hj => exact hd.2.2.2.2.1 (by omega)
  | 3, hj => exact hd.2.2.2.2.2 (by omega)
  | j + 4, hj => omega
/-- A rune below 128 is its byte, one wide. -/
theorem dec_small (s : ByteArray) (i : Nat) (h : i < s.size) (hc : (Utf8.decode s i).1 < 128) : (s.get! i).toNat = (Utf8.decode s i).1 ∧ (Utf8.decode s i).2 = 1 := by
  rw [get_bang s i h]
  by_cases ha : (s[i]'h).toNat < 128
  · rw [decode_ascii s i h ha]; exact ⟨rfl, rfl⟩
  · have := decode_high s i h (by omega); omega
/-- What is no line end is passed over, however wide. -/
theorem lf_rune (s : ByteArray) (f i : Nat) (h : i < s.size) (h1 : (Utf8.decode s i).1 ≠ 13) (h2 : (Utf8.decode s i).1 ≠ 10) : linesFrom s f i = linesFrom s f (i + (Utf8.decode s i).2) := by
  by_cases ha : (s[i]'h).toNat < 128
  · rw [decode_ascii s i h ha] at h1 h2 ⊢
    have e := get_bang s i h
    exact lf_one s f i h (by rw [e]; exact h1) (by rw [e]; exact h2)
  · have e := get_bang s i h
    have hd := dec_in s i h
    exact lf_high s f _ i hd.2.1 (hd.2.2 (by rw [e]; omega))
end Go.Proofs.YtejniiehfangkaaGreatDoor
