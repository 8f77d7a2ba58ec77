/- Plain facts on the document's own way of reading a rune: no program in it. -/
import Derived.Test.YtejniiehfangkaaGreatDoorPlainB
set_option linter.unusedVariables false
set_option linter.unusedSimpArgs false
namespace Go.Proofs.YtejniiehfangkaaGreatDoor
/-- The number that the lead byte's bits and the k - 1 next bytes come to. -/
def vf (s : ByteArray) (i v0 : Nat) : Nat → Nat
  | 0 => v0
  | k + 1 => if k = 0 then v0 else vf s i v0 k * 64 + ((s.get! (i + k)).toNat - 128)
theorem vf_one (s : ByteArray) (i v0 : Nat) : vf s i v0 1 = v0 := rfl
theorem vf_next (s : ByteArray) (i v0 k : Nat) (hk : 1 ≤ k) : vf s i v0 (k + 1) = vf s i v0 k * 64 + ((s.get! (i + k)).toNat - 128) := by
  rw [vf, if_neg (by omega)]
def Conts (s : ByteArray) (i k : Nat) : Prop := ∀ j, 1 ≤ j → j < k → 128 ≤ (s.get! (i + j)).toNat ∧ (s.get! (i + j)).toNat < 192
theorem vf_small (s : ByteArray) (i v0 : Nat) (h0 : v0 ≤ 31) : ∀ k, Conts s i k → k ≤ 4 → vf s i v0 k ≤ 8388607 ∧ (k ≤ 3 → vf s i v0 k ≤ 131071) := by
  intro k hc hk
  match k, hk with
  | 0, _ => simp [vf]; omega
  | 1, _ => simp [vf]; omega
  | 2, _ => have := hc 1 (by omega) (by omega); simp [vf]; omega
  | 3, _ => have := hc 1 (by omega) (by omega); have := hc 2 (by omega) (by omega); simp [vf]; omega
  | 4, _ => have := hc 1 (by omega) (by omega); have := hc 2 (by omega) (by omega); have := hc 3 (by omega) (by omega); simp [vf]; omega
/-- A lead byte b of the class (m, off, least). -/
def Cls (b m off least : Nat) : Prop := (m = 2 ∧ off = 192 ∧ least = 128 ∧ 194 ≤ b ∧ b < 224) ∨ (m = 3 ∧ off = 224 ∧ least = 2048 ∧ 224 ≤ b ∧ b < 240) ∨ (m = 4 ∧ off = 240 ∧ least = 65536 ∧ 240 ≤ b ∧ b < 245)
def fits (least V : Nat) : Prop := least ≤ V ∧ V ≤ 1114111 ∧ ¬ (55296 ≤ V ∧ V < 57344)
theorem bad_iff (s : ByteArray) (i : Nat) : badAt s i = true ↔ Utf8.decode s i = (65533, 1) := by
  unfold badAt; simp [Prod.ext_iff]
set_option maxRecDepth 100000 in
set_option maxHeartbeats 4000000 in
theorem decN_none (n b0 b1 b2 b3 : Nat) (hn : 1 ≤ n) (h0 : b0 < 256) (h1 : b1 < 256) (h2 : b2 < 256) (h3 : b3 < 256) (hb : 128 ≤ b0 ∧ b0 < 194 ∨ 245 ≤ b0) : Lib.decodeN n b0 b1 b2 b3 = (65533, 1) := by
  unfold Lib.decodeN
  repeat' split
  all_goals first | rfl | (exfalso; omega)
set_option maxRecDepth 100000 in
set_option maxHeartbeats 4000000 in
theorem decN_two (n b0 b1 b2 b3 : Nat) (h0 : b0 < 256) (h1 : b1 < 256) (h2 : b2 < 256) (h3 : b3 < 256) (hb : 194 ≤ b0 ∧ b0 < 224) :
    Lib.decodeN n b0 b1 b2 b3 = if 2 ≤ n ∧ 128 ≤ b1 ∧ b1 < 192 then ((b0 - 192) * 64 + (b1 - 128), 2) else (65533, 1) := by
  unfold Lib.decodeN
  repeat' split
  all_goals first | rfl | (exfalso; omega) | (apply Prod.ext <;> simp only <;> omega)
set_option maxRecDepth 100000 in
set_option maxHeartbeats 4000000 in
theorem decN_three (n b0 b1 b2 b3 : Nat) (h0 : b0 < 256) (h1 : b1 < 256) (h2 : b2 < 256) (h3 : b3 < 256) (hb : 224 ≤ b0 ∧ b0 < 240) :
    Lib.decodeN n b0 b1 b2 b3 = if 3 ≤ n ∧ (128 ≤ b1 ∧ b1 < 192) ∧ (128 ≤ b2 ∧ b2 < 192) ∧ (2048 ≤ ((b0 - 224) * 64 + (b1 - 128)) * 64 + (b2 - 128) ∧ ¬ (55296 ≤ ((b0 - 224) * 64 + (b1 - 128)) * 64 + (b2 - 128) ∧ ((b0 - 224) * 64 + (b1 - 128)) * 64 + (b2 - 128) < 57344)) then (((b0 - 224) * 64 + (b1 - 128)) * 64 + (b2 - 128), 3) else (65533, 1) := by
  unfold Lib.decodeN
  repeat' split
  all_goals first | rfl | (exfalso; omega) | (apply Prod.ext <;> simp only <;> omega)
set_option maxRecDepth 100000 in
set_option maxHeartbeats 4000000 in
theorem decN_four (n b0 b1 b2 b3 : Nat) (h0 : b0 < 256) (h1 : b1 < 256) (h2 : b2 < 256) (h3 : b3 < 256) (hb : 240 ≤ b0 ∧ b0 < 245) :
    Lib.decodeN n b0 b1 b2 b3 = if 4 ≤ n ∧ (128 ≤ b1 ∧ b1 < 192) ∧ (128 ≤ b2 ∧ b2 < 192) ∧ (128 ≤ b3 ∧ b3 < 192) ∧ (65536 ≤ (((b0 - 240) * 64 + (b1 - 128)) * 64 + (b2 - 128)) * 64 + (b3 - 128) ∧ (((b0 - 240) * 64 + (b1 - 128)) * 64 + (b2 - 128)) * 64 + (b3 - 128) ≤ 1114111) then ((((b0 - 240) * 64 + (b1 - 128)) * 64 + (b2 - 128)) * 64 + (b3 - 128), 4) else (65533, 1) := by
  unfold Lib.decodeN
  repeat' split
  all_goals first | rfl | (exfalso; omega) | (apply Prod.ext <;> simp only <;> omega)
/-- What the document's reading comes to, whole. -/
theorem size_yes (s : ByteArray) (i m off least : Nat) (hb : Cls (s.get! i).toNat m off least) (hm : i + m ≤ s.size) (hc : Conts s i m) (hf : fits least (vf s i ((s.get! i).toNat - off) m)) :
    Utf8.decode s i = (vf s i ((s.get! i).toNat - off) m, m) ∧ badAt s i = false := by
  have key : Utf8.decode s i = (vf s i ((s.get! i).toNat - off) m, m) := by
    rw [Lib.decode_at]
    have g0 := get_lt s i; have g1 := get_lt s (i + 1); have g2 := get_lt s (i + 2); have g3 := get_lt s (i + 3)
    rcases hb with ⟨rfl, rfl, rfl, a, b⟩ | ⟨rfl, rfl, rfl, a, b⟩ | ⟨rfl, rfl, rfl, a, b⟩
    · have c1 := hc 1 (by omega) (by omega)
      rw [decN_two _ _ _ _ _ g0 g1 g2 g3 ⟨a, b⟩, if_pos ⟨by omega, c1⟩]; rfl
    · have c1 := hc 1 (by omega) (by omega); have c2 := hc 2 (by omega) (by omega)
      rw [decN_three _ _ _ _ _ g0 g1 g2 g3 ⟨a, b⟩, if_pos ⟨by omega, c1, c2, hf.1, hf.2.2⟩]; rfl
    · have c1 := hc 1 (by omega) (by omega); have c2 := hc 2 (by omega) (by omega); have c3 := hc 3 (by omega) (by omega)
      rw [decN_four _ _ _ _ _ g0 g1 g2 g3 ⟨a, b⟩, if_pos ⟨by omega, c1, c2, c3, hf.1, hf.2.1⟩]; rfl
  refine ⟨key, ?_⟩
  rw [Bool.eq_false_iff, ne_eq, bad_iff, key]
  intro e
  have := (Prod.ext_iff.1 e).2
  rcases hb with ⟨rfl, _⟩ | ⟨rfl, _⟩ | ⟨rfl, _⟩ <;> simp at this
theorem size_no (s : ByteArray) (i m off least : Nat) (hb : Cls (s.get! i).toNat m off least) (h : ¬ (i + m ≤ s.size ∧ Conts s i m ∧ fits least (vf s i ((s.get! i).toNat - off) m))) : badAt s i = true := by
  rw [bad_iff, Lib.decode_at]
  have g0 := get_lt s i; have g1 := get_lt s (i + 1); have g2 := get_lt s (i + 2); have g3 := get_lt s (i + 3)
  rcases hb with ⟨rfl, rfl, rfl, a, b⟩ | ⟨rfl, rfl, rfl, a, b⟩ | ⟨rfl, rfl, rfl, a, b⟩
  · rw [decN_two _ _ _ _ _ g0 g1 g2 g3 ⟨a, b⟩, if_neg]
    rintro ⟨r, c1⟩
    refine h ⟨by omega, fun j h1 h2 => ?_, ?_⟩
    · obtain rfl : j = 1 := by omega
      exact c1
    · have e : vf s i ((s.get! i).toNat - 192) 2 = ((s.get! i).toNat - 192) * 64 + ((s.get! (i + 1)).toNat - 128) := rfl
      unfold fits; rw [e]; omega
  · rw [decN_three _ _ _ _ _ g0 g1 g2 g3 ⟨a, b⟩, if_neg]
    rintro ⟨r, c1, c2, f1, f2⟩
    refine h ⟨by omega, fun j h1 h2 => ?_, f1, ?_, f2⟩
    · obtain rfl | rfl : j = 1 ∨ j = 2 := by omega
      · exact c1
      · exact c2
    · simp [vf]; omega
  · rw [decN_four _ _ _ _ _ g0 g1 g2 g3 ⟨a, b⟩, if_neg]
    rintro ⟨r, c1, c2, c3, f1, f2⟩
    refine h ⟨by omega, fun j h1 h2 => ?_, f1, f2, ?_⟩
    · obtain rfl | rfl | rfl : j = 1 ∨ j = 2 ∨ j = 3 := by omega
      · exact c1
      · exact c2
      · exact c3
    · intro hx
      have f1' : 65536 ≤ vf s i ((s.get! i).toNat - 240) 4 := f1
      omega
theorem size_none (s : ByteArray) (i : Nat) (h : i < s.size) (hb : 128 ≤ (s.get! i).toNat ∧ (s.get! i).toNat < 194 ∨ 245 ≤ (s.get! i).toNat) : badAt s i = true := by
  rw [bad_iff, Lib.decode_at]
  exact decN_none _ _ _ _ _ (by omega) (get_lt s i) (get_lt s _) (get_lt s _) (get_lt s _) hb
theorem size_one (s : ByteArray) (i : Nat) (h : i < s.size) (hb : (s.get! i).toNat < 128) : Utf8.decode s i = ((s.get! i).toNat, 1) ∧ badAt s i = false := by
  have e := get_bang s i h
  have hd : Utf8.decode s i = ((s.get! i).toNat, 1) := by rw [decode_ascii s i h (by rw [← e]; exact hb), e]
  refine ⟨hd, ?_⟩
  rw [Bool.eq_false_iff, ne_eq, bad_iff, hd]
  intro e
  have := (Prod.ext_iff.1 e).1
  simp at this; omega
end Go.Proofs.YtejniiehfangkaaGreatDoor
