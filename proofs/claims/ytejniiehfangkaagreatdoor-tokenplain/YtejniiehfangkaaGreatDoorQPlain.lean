/- Texts in quotes, as bytes: what is written, and what is read. No program in it. -/
import Derived.Test.YtejniiehfangkaaGreatDoorEnc
set_option linter.unusedVariables false
set_option linter.unusedSimpArgs false
namespace Go.Proofs.YtejniiehfangkaaGreatDoor
/-- A hexadecimal digit. -/
def hexB (n : Nat) : UInt8 := if n < 10 then UInt8.ofNat (48 + n) else UInt8.ofNat (87 + n)
/-- What stands for a byte within quotes. -/
def qb (c : UInt8) : List UInt8 :=
  if c = 34 ∨ c = 92 then [92, c] else if c = 8 then [92, 98] else if c = 12 then [92, 102] else if c = 10 then [92, 110] else if c = 13 then [92, 114] else if c = 9 then [92, 116]
  else if c.toNat < 32 then [92, 117, 48, 48, hexB (c.toNat / 16), hexB (c.toNat % 16)] else [c]
def qIn (l : List UInt8) : List UInt8 := l.flatMap qb
def qL (l : List UInt8) : List UInt8 := 34 :: (qIn l ++ [34])
def quoteB (s : ByteArray) : ByteArray := ⟨(qL s.data.toList).toArray⟩
theorem qb_len (c : UInt8) : 1 ≤ (qb c).length ∧ (qb c).length ≤ 6 := by
  unfold qb
  repeat' split
  all_goals simp
theorem qIn_len (l : List UInt8) : l.length ≤ (qIn l).length ∧ (qIn l).length ≤ 6 * l.length := by
  induction l with
  | nil => simp [qIn]
  | cons c l ih =>
    have := qb_len c
    simp only [qIn, List.flatMap_cons, List.length_append, List.length_cons] at ih ⊢
    omega
theorem qIn_app (a b : List UInt8) : qIn (a ++ b) = qIn a ++ qIn b := by simp [qIn]
theorem qIn_cons (c : UInt8) (b : List UInt8) : qIn (c :: b) = qb c ++ qIn b := by simp [qIn]
theorem quoteB_size (s : ByteArray) : (quoteB s).size = (qIn s.data.toList).length + 2 := by
  simp [quoteB, qL, ByteArray.size]
theorem ne_of (c d : UInt8) (h : c.toNat ≠ d.toNat) : c ≠ d := fun e => h (by rw [e])
theorem qb_high (c : UInt8) (h : 128 ≤ c.toNat) : qb c = [c] := by
  have k : ∀ d : UInt8, d.toNat < 128 → c ≠ d := fun d hd => ne_of c d (by omega)
  unfold qb
  rw [if_neg (by rintro (e | e) <;> exact k _ (by decide) e), if_neg (k _ (by decide)), if_neg (k _ (by decide)), if_neg (k _ (by decide)), if_neg (k _ (by decide)), if_neg (k _ (by decide)), if_neg (by omega)]
theorem qIn_high (l : List UInt8) (h : ∀ c ∈ l, 128 ≤ c.toNat) : qIn l = l := by
  induction l with
  | nil => rfl
  | cons c l ih => rw [qIn_cons, qb_high c (h c (by simp)), ih (fun d hd => h d (by simp [hd]))]; rfl
theorem encL_high (r : Nat) (h : 128 ≤ r) (h2 : r < 1114112) : ∀ c ∈ encL r, 128 ≤ c.toNat := by
  intro c hc
  unfold encL at hc
  rw [if_neg (by omega)] at hc
  split at hc
  · simp only [List.mem_cons, List.not_mem_nil, or_false] at hc
    rcases hc with rfl | rfl <;> rw [u8 _ (by omega)] <;> omega
  · split at hc
    · simp only [List.mem_cons, List.not_mem_nil, or_false] at hc
      rcases hc with rfl | rfl | rfl <;> rw [u8 _ (by omega)] <;> omega
    · simp only [List.mem_cons, List.not_mem_nil, or_false] at hc
      rcases hc with rfl | rfl | rfl | rfl <;> rw [u8 _ (by omega)] <;> omega
theorem isR_lt (r : Nat) (h : isR r = true) : r < 1114112 ∧ (r < 55296 ∨ 57343 < r) := by simp [isR] at h; omega
/-- What stands for a rune within quotes. -/
theorem qIn_enc (r : Nat) (h : isR r = true) (h8 : 128 ≤ r) : qIn (encL r) = encL r := qIn_high _ (encL_high r h8 (isR_lt r h).1)
theorem encL_small (r : Nat) (h : r < 128) : encL r = [UInt8.ofNat r] := by unfold encL; rw [if_pos h]
theorem qIn_enc_small (r : Nat) (h : r < 128) : qIn (encL r) = qb (UInt8.ofNat r) := by rw [encL_small r h]; simp [qIn]
theorem ofNat_toNat (r : Nat) (h : r < 256) : (UInt8.ofNat r).toNat = r := u8 r h
/-! ### what is read -/
/-- A digit's number; 16: it is none. -/
def dg (c : Nat) : Nat := if 48 ≤ c ∧ c ≤ 57 then c - 48 else if 97 ≤ c ∧ c ≤ 102 then c - 87 else if 65 ≤ c ∧ c ≤ 70 then c - 55 else 16
def g4 (s : ByteArray) (i k : Nat) : Nat := dg (s.get! (i + k)).toNat
/-- Four digits stand at i. -/
def is4 (s : ByteArray) (i : Nat) : Bool := decide (i + 4 ≤ s.size) && (decide (g4 s i 0 < 16) && decide (g4 s i 1 < 16) && decide (g4 s i 2 < 16) && decide (g4 s i 3 < 16))
def v4 (s : ByteArray) (i : Nat) : Nat := ((g4 s i 0 * 16 + g4 s i 1) * 16 + g4 s i 2) * 16 + g4 s i 3
/-- A sign 5c, u, and four digits stand at i. -/
def isU (s : ByteArray) (i : Nat) : Bool := is4 s (i + 2) && ((s.get! i).toNat == 92) && ((s.get! (i + 1)).toNat == 117)
/-- What a number at i tells: the rune, and how many bytes it takes; 0: none. -/
def numR (s : ByteArray) (i : Nat) : Nat × Nat :=
  if isU s i then
    (if v4 s (i + 2) < 55296 ∨ 57343 < v4 s (i + 2) then (v4 s (i + 2), 6)
     else if 56319 < v4 s (i + 2) then (0, 0)
     else if isU s (i + 6) then (if v4 s (i + 8) < 56320 ∨ 57343 < v4 s (i + 8) then (0, 0) else (65536 + (v4 s (i + 2) - 55296) * 1024 + (v4 s (i + 8) - 56320), 12))
     else (0, 0))
  else (0, 0)
/-- What a sign 5c at i and what stands behind it tell. -/
def escR (s : ByteArray) (i : Nat) : Nat × Nat :=
  if i + 2 ≤ s.size then
    (if (s.get! (i + 1)).toNat = 34 ∨ (s.get! (i + 1)).toNat = 92 ∨ (s.get! (i + 1)).toNat = 47 then ((s.get! (i + 1)).toNat, 2)
     else if (s.get! (i + 1)).toNat = 98 then (8, 2) else if (s.get! (i + 1)).toNat = 102 then (12, 2) else if (s.get! (i + 1)).toNat = 110 then (10, 2)
     else if (s.get! (i + 1)).toNat = 114 then (13, 2) else if (s.get! (i + 1)).toNat = 116 then (9, 2) else if (s.get! (i + 1)).toNat = 117 then numR s i else (0, 0))
  else (0, 0)
theorem dg_lt (c : Nat) : dg c ≤ 16 := by
  unfold dg
  repeat' split
  all_goals omega
theorem dg_ascii (c : Nat) (h : dg c < 16) : c < 128 := by
  unfold dg at h
  repeat' split at h
  all_goals omega
theorem v4_lt (s : ByteArray) (i : Nat) (h : is4 s i = true) : v4 s i < 65536 := by
  simp only [is4, Bool.and_eq_true, decide_eq_true_eq] at h; unfold v4; omega
theorem is4_in (s : ByteArray) (i : Nat) (h : is4 s i = true) : i + 4 ≤ s.size ∧ ∀ k, k < 4 → (s.get! (i + k)).toNat < 128 := by
  simp only [is4, Bool.and_eq_true, decide_eq_true_eq] at h
  refine ⟨h.1, fun k hk => ?_⟩
  obtain rfl | rfl | rfl | rfl : k = 0 ∨ k = 1 ∨ k = 2 ∨ k = 3 := by omega
  · exact dg_ascii _ h.2.1.1.1
  · exact dg_ascii _ h.2.1.1.2
  · exact dg_ascii _ h.2.1.2
  · exact dg_ascii _ h.2.2
theorem isU_in (s : ByteArray) (i : Nat) (h : isU s i = true) : i + 6 ≤ s.size ∧ ∀ k, k < 6 → (s.get! (i + k)).toNat < 128 := by
  simp only [isU, Bool.and_eq_true, beq_iff_eq] at h
  have h4 := is4_in s (i + 2) h.1.1
  refine ⟨by omega, fun k hk => ?_⟩
  by_cases h2 : k < 2
  · obtain rfl | rfl : k = 0 ∨ k = 1 := by omega
    · rw [Nat.add_zero]; omega
    · omega
  · have := h4.2 (k - 2) (by omega)
    rwa [show i + 2 + (k - 2) = i + k by omega] at this
/-- What is told takes bytes that are there, each a rune below 80; the rune may be a text's. -/
def EscOk (s : ByteArray) (i : Nat) (p : Nat × Nat) : Prop := p.2 = 0 ∨ (2 ≤ p.2 ∧ p.2 ≤ 12 ∧ i + p.2 ≤ s.size ∧ (∀ k, 1 ≤ k → k < p.2 → (s.get! (i + k)).toNat < 128) ∧ isR p.1 = true)
theorem isR_of (n : Nat) (h : n < 55296 ∨ 57343 < n) (h2 : n ≤ 1114111) : isR n = true := by simp [isR]; omega
theorem numR_ok (s : ByteArray) (i : Nat) : EscOk s i (numR s i) := by
  unfold numR
  by_cases h : isU s i = true
  · have h1 := isU_in s i h
    have hv := v4_lt s (i + 2) (by simp only [isU, Bool.and_eq_true] at h; exact h.1.1)
    rw [if_pos h]
    by_cases a : v4 s (i + 2) < 55296 ∨ 57343 < v4 s (i + 2)
    · rw [if_pos a]; exact .inr ⟨by omega, by omega, h1.1, fun k _ hk => h1.2 k hk, isR_of _ a (by omega)⟩
    · rw [if_neg a]
      by_cases b : 56319 < v4 s (i + 2)
      · rw [if_pos b]; exact .inl rfl
      · rw [if_neg b]
        by_cases h' : isU s (i + 6) = true
        · rw [if_pos h']
          have h2 := isU_in s (i + 6) h'
          by_cases c : v4 s (i + 8) < 56320 ∨ 57343 < v4 s (i + 8)
          · rw [if_pos c]; exact .inl rfl
          · rw [if_neg c]
            refine .inr ⟨by omega, by omega, by omega, fun k _ hk => ?_, isR_of _ (by omega) (by omega)⟩
            by_cases hk6 : k < 6
            · exact h1.2 k hk6
            · have := h2.2 (k - 6) (by simp only at hk; omega)
              rwa [show i + 6 + (k - 6) = i + k by omega] at this
        · rw [if_neg h']; exact .inl rfl
  · rw [if_neg h]; exact .inl rfl
theorem escR_ok (s : ByteArray) (i : Nat) : EscOk s i (escR s i) := by
  unfold escR
  by_cases h : i + 2 ≤ s.size
  · rw [if_pos h]
    have two : ∀ r : Nat, r < 128 → (s.get! (i + 1)).toNat < 128 → EscOk s i (r, 2) := fun r hr hc => .inr ⟨by omega, by omega, h, fun k h1 h2 => by
      obtain rfl : k = 1 := by simp only at h2; omega
      exact hc, isR_of r (by omega) (by omega)⟩
    by_cases a : (s.get! (i + 1)).toNat = 34 ∨ (s.get! (i + 1)).toNat = 92 ∨ (s.get! (i + 1)).toNat = 47
    · rw [if_pos a]; exact two _ (by omega) (by omega)
    rw [if_neg a]
    by_cases b : (s.get! (i + 1)).toNat = 98
    · rw [if_pos b]; exact two _ (by omega) (by omega)
    rw [if_neg b]
    by_cases c : (s.get! (i + 1)).toNat = 102
    · rw [if_pos c]; exact two _ (by omega) (by omega)
    rw [if_neg c]
    by_cases d : (s.get! (i + 1)).toNat = 110
    · rw [if_pos d]; exact two _ (by omega) (by omega)
    rw [if_neg d]
    by_cases e : (s.get! (i + 1)).toNat = 114
    · rw [if_pos e]; exact two _ (by omega) (by omega)
    rw [if_neg e]
    by_cases f : (s.get! (i + 1)).toNat = 116
    · rw [if_pos f]; exact two _ (by omega) (by omega)
    rw [if_neg f]
    by_cases g : (s.get! (i + 1)).toNat = 117
    · rw [if_pos g]; exact numR_ok s i
    · rw [if_neg g]; exact .inl rfl
  · rw [if_neg h]; exact .inl rfl
/-- What is read from i on, behind the bytes told so far. -/
def unqF (s : ByteArray) : Nat → Nat → List UInt8 → List UInt8 × Nat × Nat
  | 0, _, _ => ([], s.size, 4)
  | f + 1, i, o =>
    if i < s.size then
      (if (s.get! i).toNat = 34 then (o, i + 1, 0) else if (s.get! i).toNat < 32 then ([], i, 4)
       else if (s.get! i).toNat = 92 then (if (escR s i).2 = 0 then ([], i, 4) else unqF s f (i + (escR s i).2) (o ++ encL (escR s i).1))
       else if badAt s i then ([], i, 2) else unqF s f (i + (Utf8.decode s i).2) (o ++ encL (Utf8.decode s i).1))
    else ([], s.size, 4)
def unq (s : ByteArray) : List UInt8 × Nat × Nat := if 0 < s.size ∧ (s.get! 0).toNat = 34 then unqF s (s.size + 1) 1 [] else ([], 0, 4)
theorem unqF_end (s : ByteArray) (f i : Nat) (o : List UInt8) (h : ¬ i < s.size) : unqF s f i o = ([], s.size, 4) := by cases f <;> simp [unqF, h]
theorem unqF_close (s : ByteArray) (f i : Nat) (o : List UInt8) (h : i < s.size) (hf : s.size < i + f) (hc : (s.get! i).toNat = 34) : unqF s f i o = (o, i + 1, 0) := by
  cases f with
  | zero => omega
  | succ f => rw [unqF, if_pos h, if_pos hc]
theorem unqF_low (s : ByteArray) (f i : Nat) (o : List UInt8) (h : i < s.size) (hf : s.size < i + f) (hc : (s.get! i).toNat < 32) : unqF s f i o = ([], i, 4) := by
  cases f with
  | zero => omega
  | succ f => rw [unqF, if_pos h, if_neg (by omega), if_pos hc]
theorem unqF_noesc (s : ByteArray) (f i : Nat) (o : List UInt8) (h : i < s.size) (hf : s.size < i + f) (hc : (s.get! i).toNat = 92) (he : (escR s i).2 = 0) : unqF s f i o = ([], i, 4) := by
  cases f with
  | zero => omega
  | succ f => rw [unqF, if_pos h, if_neg (by omega), if_neg (by omega), if_pos hc, if_pos he]
theorem unqF_esc (s : ByteArray) (f i : Nat) (o : List UInt8) (h : i < s.size) (hf : s.size < i + f) (hc : (s.get! i).toNat = 92) (he : (escR s i).2 ≠ 0) : ∃ g, unqF s f i o = unqF s g (i + (escR s i).2) (o ++ encL (escR s i).1) ∧ s.size < i + (escR s i).2 + g := by
  cases f with
  | zero => omega
  | succ f => exact ⟨f, by rw [unqF, if_pos h, if_neg (by omega), if_neg (by omega), if_pos hc, if_neg he], by omega⟩
theorem unqF_bad (s : ByteArray) (f i : Nat) (o : List UInt8) (h : i < s.size) (hf : s.size < i + f) (hb : badAt s i = true) : unqF s f i o = ([], i, 2) := by
  have h8 : ¬ (s.get! i).toNat < 128 := fun h8 => by have := (size_one s i h h8).2; rw [hb] at this; cases this
  cases f with
  | zero => omega
  | succ f => rw [unqF, if_pos h, if_neg (by omega), if_neg (by omega), if_neg (by omega), if_pos hb]
theorem unqF_rune (s : ByteArray) (f i : Nat) (o : List UInt8) (h : i < s.size) (hf : s.size < i + f) (hb : badAt s i = false) (h1 : (s.get! i).toNat ≠ 34) (h2 : ¬ (s.get! i).toNat < 32) (h3 : (s.get! i).toNat ≠ 92) :
    ∃ g, unqF s f i o = unqF s g (i + (Utf8.decode s i).2) (o ++ encL (Utf8.decode s i).1) ∧ s.size < i + (Utf8.decode s i).2 + g := by
  cases f with
  | zero => omega
  | succ f => exact ⟨f, by rw [unqF, if_pos h, if_neg h1, if_neg h2, if_neg h3, hb]; rfl, by have := (dec_in s i h).1; omega⟩
end Go.Proofs.YtejniiehfangkaaGreatDoor
