/- What is quoted is read, whatever stands behind it: on bytes, no program in it. -/
import Derived.Test.YtbinmhcjadkmgaaDoorQWalk
set_option linter.unusedVariables false
set_option linter.unusedSimpArgs false
namespace Go.Proofs.YtbinmhcjadkmgaaDoor
theorem esc_two (q : ByteArray) (p b r : Nat) (h : p + 2 ≤ q.size) (hb : (q.get! (p + 1)).toNat = b) (ht : (b = 34 ∧ r = 34) ∨ (b = 92 ∧ r = 92) ∨ (b = 98 ∧ r = 8) ∨ (b = 102 ∧ r = 12) ∨ (b = 110 ∧ r = 10) ∨ (b = 114 ∧ r = 13) ∨ (b = 116 ∧ r = 9)) : escR q p = (r, 2) := by
  unfold escR
  rw [if_pos h, hb]
  rcases ht with ⟨rfl, rfl⟩ | ⟨rfl, rfl⟩ | ⟨rfl, rfl⟩ | ⟨rfl, rfl⟩ | ⟨rfl, rfl⟩ | ⟨rfl, rfl⟩ | ⟨rfl, rfl⟩ <;> simp
theorem dg_hex : ∀ x : Fin 16, dg (hexB x.val).toNat = x.val := by decide +kernel
theorem dg_hex' (x : Nat) (h : x < 16) : dg (hexB x).toNat = x := dg_hex ⟨x, h⟩
theorem esc_six (q : ByteArray) (p r : Nat) (hr : r < 32) (h : p + 6 ≤ q.size) (h0 : q.get! p = 92) (h1 : q.get! (p + 1) = 117) (h2 : q.get! (p + 2) = 48) (h3 : q.get! (p + 3) = 48) (h4 : q.get! (p + 4) = hexB (r / 16)) (h5 : q.get! (p + 5) = hexB (r % 16)) : escR q p = (r, 6) := by
  have a0 : g4 q (p + 2) 0 = 0 := by unfold g4; rw [Nat.add_zero, h2]; rfl
  have a1 : g4 q (p + 2) 1 = 0 := by unfold g4; rw [show p + 2 + 1 = p + 3 by omega, h3]; rfl
  have a2 : g4 q (p + 2) 2 = r / 16 := by unfold g4; rw [show p + 2 + 2 = p + 4 by omega, h4]; exact dg_hex' _ (by omega)
  have a3 : g4 q (p + 2) 3 = r % 16 := by unfold g4; rw [show p + 2 + 3 = p + 5 by omega, h5]; exact dg_hex' _ (by omega)
  have hu : isU q p = true := by
    unfold isU is4
    rw [a0, a1, a2, a3, h0, h1]
    simp; omega
  have hv : v4 q (p + 2) = r := by unfold v4; rw [a0, a1, a2, a3]; omega
  have e1 : (q.get! (p + 1)).toNat = 117 := by rw [h1]; rfl
  unfold escR
  rw [if_pos (by omega), e1, if_neg (by decide), if_neg (by decide), if_neg (by decide), if_neg (by decide), if_neg (by decide), if_neg (by decide), if_pos rfl]
  unfold numR
  rw [if_pos hu, hv, if_pos (by omega)]
theorem encL_first (r : Nat) (hr : isR r = true) (h0 : 32 ≤ r) (h1 : r ≠ 34) (h2 : r ≠ 92) : ∃ a t, encL r = a :: t ∧ a.toNat ≠ 34 ∧ ¬ a.toNat < 32 ∧ a.toNat ≠ 92 := by
  by_cases h : r < 128
  · exact ⟨UInt8.ofNat r, [], encL_small r h, by rw [u8 r (by omega)]; exact h1, by rw [u8 r (by omega)]; omega, by rw [u8 r (by omega)]; exact h2⟩
  · have hl := (encL_len r).1
    cases he : encL r with
    | nil => rw [he] at hl; simp at hl
    | cons a t =>
      have := encL_high r (by omega) (isR_lt r hr).1 a (by rw [he]; simp)
      exact ⟨a, t, rfl, by omega, by omega, by omega⟩
/-- A rune below 32, or one of the two signs, as it is read. -/
theorem esc_read (q : ByteArray) (p r : Nat) (hr : r < 32 ∨ r = 34 ∨ r = 92) (T : List UInt8) (h : q.data.toList.drop p = qb (UInt8.ofNat r) ++ T) :
    p < q.size ∧ (q.get! p).toNat = 92 ∧ escR q p = (r, (qb (UInt8.ofNat r)).length) ∧ (escR q p).2 ≠ 0 := by
  have two : ∀ b : UInt8, qb (UInt8.ofNat r) = [92, b] → ((b.toNat = 34 ∧ r = 34) ∨ (b.toNat = 92 ∧ r = 92) ∨ (b.toNat = 98 ∧ r = 8) ∨ (b.toNat = 102 ∧ r = 12) ∨ (b.toNat = 110 ∧ r = 10) ∨ (b.toNat = 114 ∧ r = 13) ∨ (b.toNat = 116 ∧ r = 9)) →
      p < q.size ∧ (q.get! p).toNat = 92 ∧ escR q p = (r, (qb (UInt8.ofNat r)).length) ∧ (escR q p).2 ≠ 0 := fun b hq ht => by
    rw [hq] at h ⊢
    obtain ⟨hp, e0, d1⟩ := drop_some q p _ _ h
    obtain ⟨hp1, e1, _⟩ := drop_some q (p + 1) _ _ d1
    have := esc_two q p b.toNat r (by omega) (by rw [e1]) ht
    exact ⟨hp, by rw [e0]; rfl, this, by rw [this]; simp⟩
  by_cases c1 : r = 34
  · subst c1; exact two 34 (by decide +kernel) (by decide)
  by_cases c2 : r = 92
  · subst c2; exact two 92 (by decide +kernel) (by decide)
  by_cases c3 : r = 8
  · subst c3; exact two 98 (by decide +kernel) (by decide)
  by_cases c4 : r = 12
  · subst c4; exact two 102 (by decide +kernel) (by decide)
  by_cases c5 : r = 10
  · subst c5; exact two 110 (by decide +kernel) (by decide)
  by_cases c6 : r = 13
  · subst c6; exact two 114 (by decide +kernel) (by decide)
  by_cases c7 : r = 9
  · subst c7; exact two 116 (by decide +kernel) (by decide)
  have hr' : r < 32 := by omega
  have key : ∀ k : Fin 32, (k.val ≠ 8 ∧ k.val ≠ 12 ∧ k.val ≠ 10 ∧ k.val ≠ 13 ∧ k.val ≠ 9) → qb (UInt8.ofNat k.val) = [92, 117, 48, 48, hexB (k.val / 16), hexB (k.val % 16)] := by decide +kernel
  have hq : qb (UInt8.ofNat r) = [92, 117, 48, 48, hexB (r / 16), hexB (r % 16)] := key ⟨r, hr'⟩ ⟨c3, c4, c5, c6, c7⟩
  rw [hq] at h ⊢
  obtain ⟨hp, e0, d1⟩ := drop_some q p _ _ h
  obtain ⟨hp1, e1, d2⟩ := drop_some q (p + 1) _ _ d1
  obtain ⟨hp2, e2, d3⟩ := drop_some q (p + 1 + 1) _ _ d2
  obtain ⟨hp3, e3, d4⟩ := drop_some q (p + 1 + 1 + 1) _ _ d3
  obtain ⟨hp4, e4, d5⟩ := drop_some q (p + 1 + 1 + 1 + 1) _ _ d4
  obtain ⟨hp5, e5, _⟩ := drop_some q (p + 1 + 1 + 1 + 1 + 1) _ _ d5
  have := esc_six q p r hr' (by omega) e0 e1 e2 e3 e4 e5
  exact ⟨hp, by rw [e0]; rfl, this, by rw [this]; simp⟩
theorem unqF_in (s q : ByteArray) (behind : List UInt8) : ∀ (g i p f : Nat) (o : List UInt8), s.size < i + g → badF s g i = -1 → q.data.toList.drop p = qIn (s.data.toList.drop i) ++ 34 :: behind → q.size < p + f →
    unqF q f p o = (o ++ s.data.toList.drop i, p + (qIn (s.data.toList.drop i)).length + 1, 0)
  | 0, i, p, f, o, hg, _, hd, hf => by
    have e : s.data.toList.drop i = [] := List.drop_of_length_le (by rw [← Lib.size_eq]; omega)
    rw [e] at hd ⊢
    obtain ⟨hp, e0, _⟩ := drop_some q p 34 behind hd
    rw [unqF_close q f p o hp hf (by rw [e0]; rfl)]
    simp [qIn]
  | g + 1, i, p, f, o, hg, hb, hd, hf => by
    by_cases hi : i < s.size
    · have hba : badAt s i = false := by
        cases hba : badAt s i
        · rfl
        · have := badF_hit s (g + 1) i hi hg hba; rw [hb] at this; omega
      have hb' : badF s g (i + (Utf8.decode s i).2) = -1 := by
        rw [badF, if_pos hi, hba] at hb; simpa using hb
      have hw := (dec_in s i hi).1
      obtain ⟨hr, he⟩ := enc_dec s i hi hba
      generalize Utf8.decode s i = D at *
      obtain ⟨r, n⟩ := D
      simp only at hb' hw hr he
      rw [he, qIn_app, List.append_assoc] at hd
      by_cases hc : r < 32 ∨ r = 34 ∨ r = 92
      · have hq := qIn_enc_small r (by omega)
        rw [hq] at hd
        obtain ⟨hp, h92, hesc, hne⟩ := esc_read q p r hc _ hd
        obtain ⟨f', hf1, hf2⟩ := unqF_esc q f p o hp hf h92 hne
        rw [hesc] at hf1 hf2
        simp only at hf1 hf2
        have hd2 : q.data.toList.drop (p + (qb (UInt8.ofNat r)).length) = qIn (s.data.toList.drop (i + n)) ++ 34 :: behind := by
          rw [← List.drop_drop, hd, List.drop_left]
        rw [hf1, unqF_in s q behind g (i + n) _ f' _ (by omega) hb' hd2 hf2, he, qIn_app, hq, List.length_append, List.append_assoc]
        simp only [Prod.mk.injEq, true_and, and_true]; omega
      · have hq := qIn_other r hr (by omega) (by omega) (by omega)
        rw [hq] at hd
        obtain ⟨hp, hdec, hbq⟩ := dec_enc q p r hr _ hd
        obtain ⟨a, t, hat, n1, n2, n3⟩ := encL_first r hr (by omega) (by omega) (by omega)
        have hd' := hd
        rw [hat] at hd'
        obtain ⟨_, e0, _⟩ := drop_some q p a _ hd'
        obtain ⟨f', hf1, hf2⟩ := unqF_rune q f p o hp hf hbq (by rw [e0]; exact n1) (by rw [e0]; exact n2) (by rw [e0]; exact n3)
        rw [hdec] at hf1 hf2
        simp only at hf1 hf2
        have hd2 : q.data.toList.drop (p + (encL r).length) = qIn (s.data.toList.drop (i + n)) ++ 34 :: behind := by
          rw [← List.drop_drop, hd, List.drop_left]
        rw [hf1, unqF_in s q behind g (i + n) _ f' _ (by omega) hb' hd2 hf2, he, qIn_app, hq, List.length_append, List.append_assoc]
        simp only [Prod.mk.injEq, true_and, and_true]; omega
    · have e : s.data.toList.drop i = [] := List.drop_of_length_le (by rw [← Lib.size_eq]; omega)
      rw [e] at hd ⊢
      obtain ⟨hp, e0, _⟩ := drop_some q p 34 behind hd
      rw [unqF_close q f p o hp hf (by rw [e0]; rfl)]
      simp [qIn]
/-- What is quoted is read, whatever stands behind it. -/
theorem unq_quote (s q : ByteArray) (behind : List UInt8) (hr : rightB s = true) (hq : q.data.toList = qL s.data.toList ++ behind) : unq q = (s.data.toList, (qL s.data.toList).length, 0) := by
  have hb : badF s (s.size + 1) 0 = -1 := by
    have : badI s = -1 := by rw [right_iff] at hr; simpa using hr
    exact this
  have hd : q.data.toList.drop 0 = 34 :: (qIn s.data.toList ++ 34 :: behind) := by rw [List.drop_zero, hq]; simp [qL]
  obtain ⟨hp, e0, d1⟩ := drop_some q 0 _ _ hd
  unfold unq
  rw [if_pos ⟨hp, by rw [e0]; rfl⟩, unqF_in s q behind (s.size + 1) 0 1 (q.size + 1) [] (by omega) hb (by rw [List.drop_zero]; exact d1) (by omega)]
  simp [qL]; omega
/-- Two texts of one quoted form are one. -/
theorem quote_inj (s t : ByteArray) (hs : rightB s = true) (ht : rightB t = true) (h : quoteB s = quoteB t) : s = t := by
  have a := unq_quote s (quoteB s) [] hs (by simp [quoteB])
  have b := unq_quote t (quoteB t) [] ht (by simp [quoteB])
  rw [h, b] at a
  have e := congrArg Prod.fst a
  simp only at e
  exact ByteArray.ext (Array.toList_inj.1 e.symm)
/-! ### the signs within -/
/-- No rune below 20; no sign 22 that no 5c is ahead of. -/
def okS : List UInt8 → Bool
  | [] => true
  | [c] => if c.toNat < 32 ∨ c.toNat = 34 then false else true
  | c :: b :: t => if c.toNat < 32 ∨ c.toNat = 34 then false else if c.toNat = 92 then okS t else okS (b :: t)
theorem okS_plain (c : UInt8) (t : List UInt8) (h1 : ¬ c.toNat < 32) (h2 : c.toNat ≠ 34) (h3 : c.toNat ≠ 92) : okS (c :: t) = okS t := by
  cases t with
  | nil => simp only [okS]; rw [if_neg (by omega)]
  | cons b t => rw [okS, if_neg (by omega), if_neg h3]
theorem okS_esc (b : UInt8) (t : List UInt8) : okS (92 :: b :: t) = okS t := by
  rw [okS, if_neg (by decide), if_pos (by decide)]
theorem okS_qb (c : UInt8) (t : List UInt8) : okS (qb c ++ t) = okS t := by
  have hx : ∀ x : Nat, x < 16 → ¬ (hexB x).toNat < 32 ∧ (hexB x).toNat ≠ 34 ∧ (hexB x).toNat ≠ 92 := fun x h => by
    have : ∀ x : Fin 16, ¬ (hexB x.val).toNat < 32 ∧ (hexB x.val).toNat ≠ 34 ∧ (hexB x.val).toNat ≠ 92 := by decide +kernel
    exact this ⟨x, h⟩
  unfold qb
  split
  · exact okS_esc _ _
  rename_i n0
  split
  · exact okS_esc _ _
  split
  · exact okS_esc _ _
  split
  · exact okS_esc _ _
  split
  · exact okS_esc _ _
  split
  · exact okS_esc _ _
  split
  · rename_i h32
    obtain ⟨a1, a2, a3⟩ := hx (c.toNat / 16) (by omega)
    obtain ⟨b1, b2, b3⟩ := hx (c.toNat % 16) (by omega)
    simp only [List.cons_append, List.nil_append]
    rw [okS_esc, okS_plain 48 _ (by decide) (by decide) (by decide), okS_plain 48 _ (by decide) (by decide) (by decide), okS_plain _ _ a1 a2 a3, okS_plain _ _ b1 b2 b3]
  · rename_i h32
    simp only [not_or] at n0
    exact okS_plain c t h32 (fun e => n0.1 (UInt8.toNat_inj.1 e)) (fun e => n0.2 (UInt8.toNat_inj.1 e))
theorem okS_qIn (l : List UInt8) : okS (qIn l) = true := by
  induction l with
  | nil => rfl
  | cons c l ih => rw [qIn_cons, okS_qb]; exact ih
end Go.Proofs.YtbinmhcjadkmgaaDoor
