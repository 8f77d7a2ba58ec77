/- Plain facts on bytes, runes and names: no program in it. -/
import Derived.Lib.DecodeN
import Derived.Laws.RangeAny
import Derived.Lib.Strings
set_option linter.unusedVariables false
set_option linter.unusedSimpArgs false
namespace Go.Proofs.YtejniiehfangkaaGreatDoor
def isL (c : Int) : Bool := decide (97 ≤ c) && decide (c ≤ 122) || decide (65 ≤ c) && decide (c ≤ 90) || c == 95
def isD (c : Int) : Bool := decide (48 ≤ c) && decide (c ≤ 57)
/-- A byte (or rune) that may stand at place i of a name. -/
def nmAt (i : Nat) (c : Int) : Bool := isL c || !(i == 0) && isD c
/-- All bytes from i on may stand there. -/
def nmFrom (s : ByteArray) (i : Nat) : Bool := (List.range (s.size - i)).all fun k => nmAt (i + k) (s.get! (i + k)).toNat
def nameB (s : ByteArray) : Bool := nmFrom s 0 && !(s.size == 0)
theorem nmFrom_end (s : ByteArray) (i : Nat) (h : ¬ i < s.size) : nmFrom s i = true := by
  unfold nmFrom; rw [show s.size - i = 0 by omega]; rfl
theorem nmFrom_step (s : ByteArray) (i : Nat) (h : i < s.size) : nmFrom s i = (nmAt i (s.get! i).toNat && nmFrom s (i + 1)) := by
  unfold nmFrom
  rw [show s.size - i = (s.size - (i + 1)) + 1 by omega, List.range_succ_eq_map]
  simp only [List.all_cons, List.all_map, Nat.add_zero]
  congr 2
  funext k
  simp only [Function.comp, Nat.succ_eq_add_one]
  rw [show i + (k + 1) = i + 1 + k by omega]
theorem get_bang (s : ByteArray) (i : Nat) (h : i < s.size) : s.get! i = s[i]'h := get_at s i h
theorem isL_big (c : Int) (h : 128 ≤ c) : isL c = false := by unfold isL; rw [Bool.eq_false_iff]; simp; omega
theorem isD_big (c : Int) (h : 128 ≤ c) : isD c = false := by unfold isD; rw [Bool.eq_false_iff]; simp; omega
/-- A rune of a name's is its byte, one wide; at another byte both say no. -/
theorem nm_dec (s : ByteArray) (i : Nat) (h : i < s.size) : nmAt i (Utf8.decode s i).1 = nmAt i (s.get! i).toNat ∧ (nmAt i (s.get! i).toNat = true → (Utf8.decode s i).2 = 1) := by
  rw [get_bang s i h]
  by_cases ha : (s[i]'h).toNat < 128
  · rw [decode_ascii s i h ha]; exact ⟨rfl, fun _ => rfl⟩
  · have hd := decode_high s i h (by omega)
    have e1 : nmAt i (Utf8.decode s i).1 = false := by unfold nmAt; rw [isL_big _ (by omega), isD_big _ (by omega)]; simp
    have e2 : nmAt i ((s[i]'h).toNat : Int) = false := by unfold nmAt; rw [isL_big _ (by omega), isD_big _ (by omega)]; simp
    rw [e1, e2]; exact ⟨rfl, fun h => by cases h⟩
theorem nm_no (s : ByteArray) (i : Nat) (h : i < s.size) (hc : nmFrom s i = nmFrom s 0) (hn : nmAt i (Utf8.decode s i).1 = false) : nameB s = false := by
  rw [(nm_dec s i h).1] at hn
  unfold nameB; rw [← hc, nmFrom_step s i h, hn]; rfl
theorem nm_yes (s : ByteArray) (i : Nat) (h : i < s.size) (hc : nmFrom s i = nmFrom s 0) (hn : nmAt i (Utf8.decode s i).1 = true) : (Utf8.decode s i).2 = 1 ∧ nmFrom s (i + (Utf8.decode s i).2) = nmFrom s 0 := by
  rw [(nm_dec s i h).1] at hn
  have hw := (nm_dec s i h).2 hn
  refine ⟨hw, ?_⟩
  rw [hw, ← hc, nmFrom_step s i h, hn]; rfl
theorem nm_end (s : ByteArray) (i : Nat) (h : ¬ i < s.size) (hc : nmFrom s i = nmFrom s 0) : nameB s = !(s.size == 0) := by
  unfold nameB; rw [← hc, nmFrom_end s i h]; rfl
theorem nmr_no (s : ByteArray) (i : Nat) (h : i < s.size) (hc : nmFrom s i = nmFrom s 0) (hn : nmAt i (s.get! i).toNat = false) : nameB s = false := by
  unfold nameB; rw [← hc, nmFrom_step s i h, hn]; rfl
theorem nmr_yes (s : ByteArray) (i : Nat) (h : i < s.size) (hc : nmFrom s i = nmFrom s 0) (hn : nmAt i (s.get! i).toNat = true) : nmFrom s (i + 1) = nmFrom s 0 := by
  rw [← hc, nmFrom_step s i h, hn]; rfl
theorem empty_iff (s : ByteArray) : (!s.toList.isEmpty) = !(s.size == 0) := by
  rw [Lib.toList_data, Lib.size_eq]; cases s.data.toList <;> simp
theorem pos_iff (s : ByteArray) : decide (0 < s.size) = !(s.size == 0) := by
  generalize s.size = n; cases n <;> simp
/-! ### what is no rune -/
theorem get_bang_data (s : ByteArray) (i : Nat) (h : i < s.size) : s.data.toList[i]'(by rw [← Lib.size_eq]; exact h) = s.get! i := by
  rw [get_bang s i h]; rfl
/-- The bytes of fffd stand at i. -/
def repAt (s : ByteArray) (i : Nat) : Bool := Lib.hasPrefix (s.extract i s.size).data.toList [239, 191, 189]
theorem repAt_iff (s : ByteArray) (i : Nat) : repAt s i = true ↔ 3 ≤ s.size - i ∧ (s.get! i).toNat = 239 ∧ (s.get! (i + 1)).toNat = 191 ∧ (s.get! (i + 2)).toNat = 189 := by
  unfold repAt Lib.hasPrefix
  rw [Lib.extract_data, List.take_of_length_le (by rw [List.length_drop, Lib.size_eq]; exact Nat.le_refl _), List.isPrefixOf_iff_prefix]
  have key : ∀ (l : List UInt8) (a b c : UInt8), [a, b, c] <+: l ↔ 3 ≤ l.length ∧ l[0]? = some a ∧ l[1]? = some b ∧ l[2]? = some c := by
    intro l a b c
    rcases l with _ | ⟨x, _ | ⟨y, _ | ⟨z, l⟩⟩⟩ <;> simp [List.cons_prefix_cons]
    exact ⟨fun ⟨h1, h2, h3⟩ => ⟨h1.symm, h2.symm, h3.symm⟩, fun ⟨h1, h2, h3⟩ => ⟨h1.symm, h2.symm, h3.symm⟩⟩
  rw [key]
  simp only [List.length_drop, List.getElem?_drop, ← Lib.size_eq, Nat.add_zero]
  constructor
  · rintro ⟨h0, h1, h2, h3⟩
    have e0 := get_bang_data s i (by omega); have e1 := get_bang_data s (i + 1) (by omega); have e2 := get_bang_data s (i + 2) (by omega)
    obtain ⟨_, g1⟩ := List.getElem?_eq_some_iff.1 h1
    obtain ⟨_, g2⟩ := List.getElem?_eq_some_iff.1 h2
    obtain ⟨_, g3⟩ := List.getElem?_eq_some_iff.1 h3
    rw [← e0, ← e1, ← e2, g1, g2, g3]
    exact ⟨h0, rfl, rfl, rfl⟩
  · rintro ⟨h0, h1, h2, h3⟩
    have e0 := get_bang_data s i (by omega); have e1 := get_bang_data s (i + 1) (by omega); have e2 := get_bang_data s (i + 2) (by omega)
    refine ⟨h0, List.getElem?_eq_some_iff.2 ⟨by rw [← Lib.size_eq]; omega, ?_⟩, List.getElem?_eq_some_iff.2 ⟨by rw [← Lib.size_eq]; omega, ?_⟩, List.getElem?_eq_some_iff.2 ⟨by rw [← Lib.size_eq]; omega, ?_⟩⟩
    · rw [e0]; exact UInt8.toNat_inj.1 h1
    · rw [e1]; exact UInt8.toNat_inj.1 h2
    · rw [e2]; exact UInt8.toNat_inj.1 h3
set_option maxRecDepth 100000 in
set_option maxHeartbeats 2000000 in
theorem dec_rep (n b0 b1 b2 b3 : Nat) (h0 : b0 < 256) (h1 : b1 < 256) (h2 : b2 < 256) (h3 : b3 < 256) (h : (Lib.decodeN n b0 b1 b2 b3).1 = 65533) :
    (Lib.decodeN n b0 b1 b2 b3).2 = 1 ∧ ¬ (3 ≤ n ∧ b0 = 239 ∧ b1 = 191 ∧ b2 = 189) ∨ (Lib.decodeN n b0 b1 b2 b3).2 = 3 ∧ (3 ≤ n ∧ b0 = 239 ∧ b1 = 191 ∧ b2 = 189) := by
  revert h
  unfold Lib.decodeN
  repeat' split
  all_goals (intro h; try simp only at h ⊢)
  all_goals first | omega | (refine .inl ⟨trivial, ?_⟩; omega) | (refine .inr ⟨trivial, ?_⟩; omega)
def badAt (s : ByteArray) (i : Nat) : Bool := (Utf8.decode s i).1 == 65533 && (Utf8.decode s i).2 == 1
theorem get_lt (s : ByteArray) (i : Nat) : (s.get! i).toNat < 256 := (s.get! i).toNat_lt
theorem badAt_rep (s : ByteArray) (i : Nat) (h : (Utf8.decode s i).1 = 65533) : badAt s i = !repAt s i := by
  unfold badAt
  rw [h]
  have hr := repAt_iff s i
  have hd := dec_rep (s.size - i) _ _ _ _ (get_lt s i) (get_lt s (i + 1)) (get_lt s (i + 2)) (get_lt s (i + 3)) (by rw [← Lib.decode_at]; exact h)
  rw [← Lib.decode_at] at hd
  rcases hd with ⟨a, b⟩ | ⟨a, b⟩
  · rw [a]; cases hc : repAt s i
    · rfl
    · exact (b (hr.1 hc)).elim
  · rw [a, hr.2 b]; rfl
theorem badAt_not (s : ByteArray) (i : Nat) (h : (Utf8.decode s i).1 ≠ 65533) : badAt s i = false := by
  unfold badAt; simp [h]
theorem width_pos (s : ByteArray) (pos : Nat) (h : pos < s.size) : 1 ≤ (Utf8.decode s pos).2 := by
  by_cases ha : (s[pos]'h).toNat < 128
  · rw [decode_ascii s pos h ha]
    exact Nat.le_refl _
  · exact (decode_high s pos h (by omega)).2
/-- The place of the first byte from i on at which no rune begins; -1: none. -/
def badF (s : ByteArray) : Nat → Nat → Int
  | 0, _ => -1
  | f + 1, i => if i < s.size then (if badAt s i then (i : Int) else badF s f (i + (Utf8.decode s i).2)) else -1
def badI (s : ByteArray) : Int := badF s (s.size + 1) 0
theorem badF_end (s : ByteArray) (f i : Nat) (h : ¬ i < s.size) : badF s f i = -1 := by
  cases f <;> simp [badF, h]
theorem badF_hit (s : ByteArray) (f i : Nat) (h : i < s.size) (hf : s.size < i + f) (hb : badAt s i = true) : badF s f i = i := by
  cases f with
  | zero => omega
  | succ f => simp [badF, h, hb]
theorem badF_go (s : ByteArray) (f i : Nat) (h : i < s.size) (hf : s.size < i + f) (hb : badAt s i = false) : ∃ g, badF s f i = badF s g (i + (Utf8.decode s i).2) ∧ s.size < i + (Utf8.decode s i).2 + g := by
  cases f with
  | zero => omega
  | succ f => exact ⟨f, by simp [badF, h, hb], by have := width_pos s i h; omega⟩
theorem badF_name (s : ByteArray) : ∀ (f i : Nat), nmFrom s i = true → badF s f i = -1
  | 0, _, _ => rfl
  | f + 1, i, h => by
    by_cases hi : i < s.size
    · rw [nmFrom_step s i hi, Bool.and_eq_true] at h
      have hw := (nm_dec s i hi).2 h.1
      have hb : badAt s i = false := badAt_not s i (fun e => by
        have := (nm_dec s i hi).1; rw [h.1, e] at this; simp [nmAt, isL, isD] at this)
      simp only [badF, hi, hb, hw, if_true]
      exact badF_name s f (i + 1) h.2
    · exact badF_end s _ i hi
theorem bad_name (s : ByteArray) (h : nameB s = true) : badI s = -1 := by
  unfold nameB at h; rw [Bool.and_eq_true] at h; exact badF_name s _ 0 h.1
end Go.Proofs.YtejniiehfangkaaGreatDoor
