/- Numbers among tokens: what strconv.ParseInt makes of their bytes; plain. -/
import Derived.Test.YtejniiehfangkaaGreatDoorKPlain
import Derived.Lib.ParseIntBCases
set_option linter.unusedVariables false
set_option linter.unusedSimpArgs false
namespace Go.Proofs.YtejniiehfangkaaGreatDoor
open Go.RowKit
theorem dgB_is {c : UInt8} (h : dgB c = true) : 48 ≤ c.toNat ∧ c.toNat ≤ 57 := by
  unfold dgB isD at h
  simp at h
  omega
theorem dvB_mono (l : List UInt8) : ∀ acc : Nat, acc ≤ l.foldl (fun a c => a * 10 + (c.toNat - 48)) acc := by
  induction l with
  | nil => intro acc; exact Nat.le_refl _
  | cons c l ih =>
    intro acc
    have := ih (acc * 10 + (c.toNat - 48))
    simp only [List.foldl_cons]
    omega
theorem uintM_dg (l : List UInt8) : ∀ acc V : Nat, V = l.foldl (fun a c => a * 10 + (c.toNat - 48)) acc → (∀ c ∈ l, dgB c = true) → acc ≤ 18446744073709551615 → Lib.parseUintM 18446744073709551615 acc l = if V ≤ 18446744073709551615 then .ok V else .range := by
  induction l with
  | nil =>
    intro acc V hV _ ha
    obtain rfl : V = acc := hV
    rw [if_pos ha]
    rfl
  | cons c l ih =>
    intro acc V hV hl ha
    have hc : 48 ≤ c.toNat ∧ c.toNat ≤ 57 := dgB_is (hl c (by simp))
    have hV2 : V = l.foldl (fun a c => a * 10 + (c.toNat - 48)) (acc * 10 + (c.toNat - 48)) := hV
    have hm := dvB_mono l (acc * 10 + (c.toNat - 48))
    rw [← hV2] at hm
    simp only [Lib.parseUintM]
    rw [if_pos hc]
    by_cases h1 : 1844674407370955162 ≤ acc
    · rw [if_pos h1, if_neg (by omega)]
    · rw [if_neg h1]
      by_cases h2 : 18446744073709551615 < acc * 10 + (c.toNat - 48)
      · rw [if_pos h2, if_neg (by omega)]
      · rw [if_neg h2]
        exact ih _ V hV2 (fun d hd => hl d (by simp [hd])) (by omega)
theorem uintB_dg {l : List UInt8} (hl : ∀ c ∈ l, dgB c = true) (hn : l ≠ []) : Lib.parseUintB 64 l = if dvB l ≤ 18446744073709551615 then .ok (dvB l) else .range := by
  unfold Lib.parseUintB
  rw [if_neg hn]
  exact uintM_dg l 0 (dvB l) rfl hl (by omega)
theorem intB_dg {l : List UInt8} (hl : ∀ c ∈ l, dgB c = true) (hn : l ≠ []) : Lib.parseIntB 64 l = if dvB l < 9223372036854775808 then .ok (dvB l : Int) else .range := by
  cases l with
  | nil => exact absurd rfl hn
  | cons c r =>
    have hc : 48 ≤ c.toNat ∧ c.toNat ≤ 57 := dgB_is (hl c (by simp))
    rw [Lib.parseIntB_plain 64 c r (by omega) (by omega), uintB_dg hl (by simp)]
    generalize dvB (c :: r) = v
    split
    · simp only [Lib.signlessC]
      have e : 2 ^ (64 - 1) = 9223372036854775808 := by decide
      rw [e]
      split
      · rw [if_neg (by omega)]
      · rw [if_pos (by omega)]
    · simp only [Lib.signlessC]
      rw [if_neg (by omega)]
theorem intB_neg {l : List UInt8} (hl : ∀ c ∈ l, dgB c = true) (hn : l ≠ []) : Lib.parseIntB 64 (45 :: l) = if dvB l ≤ 9223372036854775808 then .ok (-(dvB l : Int)) else .range := by
  rw [Lib.parseIntB_minus, uintB_dg hl hn]
  generalize dvB l = v
  have e : 2 ^ (64 - 1) = 9223372036854775808 := by decide
  split
  · simp only [Lib.signedC]
    rw [e]
    split
    · rw [if_neg (by omega)]
    · rw [if_pos (by omega)]
  · simp only [Lib.signedC]
    rw [if_neg (by omega)]
/-- The digits, as the program takes them. -/
def mnT (l : List UInt8) : List UInt8 := l.take (tk mnB l)
def dgT (l : List UInt8) : List UInt8 := (l.drop (tk mnB l)).take (tk dgB (l.drop (tk mnB l)))
def dgU (l : List UInt8) : List UInt8 := if hd48 (dgT l) then [48] else dgT l
def prN (l : List UInt8) : List UInt8 := mnT l ++ dgU l
theorem mnB_is {c : UInt8} (h : mnB c = true) : c = 45 := by
  unfold mnB at h
  have h2 : (c.toNat : Int) = 45 := by simpa using h
  have : c.toNat = 45 := by omega
  exact UInt8.toNat_inj.1 this
theorem hd48_is {l : List UInt8} (h : hd48 l = true) : ∃ t, l = 48 :: t := by
  cases l with
  | nil => simp [hd48] at h
  | cons c t =>
    have : c.toNat = 48 := by simpa [hd48] using h
    exact ⟨t, by rw [UInt8.toNat_inj.1 (show c.toNat = (48 : UInt8).toNat from this)]⟩
theorem hd48_take (l : List UInt8) : hd48 (l.take (tk dgB l)) = hd48 l := by
  cases l with
  | nil => rfl
  | cons c t =>
    unfold tk
    by_cases h : dgB c = true
    · rw [if_pos h]; rfl
    · rw [if_neg h]
      have : ¬ c.toNat = 48 := fun e => h (by unfold dgB isD; rw [e]; rfl)
      simp [hd48, this]
theorem num_out (l : List UInt8) :
    (Lib.parseIntB 64 (prN l) = .«syntax» ∧ numL l = .no 0) ∨ (Lib.parseIntB 64 (prN l) = .range ∧ numL l = .no 0) ∨
    (∃ v : Int, Lib.parseIntB 64 (prN l) = .ok v ∧ numL l = if v < -9007199254740991 ∨ 9007199254740991 < v ∨ (v = 0 ∧ mnT l ≠ []) then .no 0 else .ok 3 (prN l) (prN l).length) := by
  -- the signs
  have key : ∀ (r : List UInt8) (sg : List UInt8), (sg = [] ∨ sg = [45]) → sgN (sg ++ r) = sg.length → (∀ c t, r = c :: t → c ≠ 45) →
      (Lib.parseIntB 64 (sg ++ (if hd48 r then [48] else r.take (tk dgB r))) = .«syntax» ∧ numL (sg ++ r) = .no 0) ∨ (Lib.parseIntB 64 (sg ++ (if hd48 r then [48] else r.take (tk dgB r))) = .range ∧ numL (sg ++ r) = .no 0) ∨
      (∃ v : Int, Lib.parseIntB 64 (sg ++ (if hd48 r then [48] else r.take (tk dgB r))) = .ok v ∧ numL (sg ++ r) = if v < -9007199254740991 ∨ 9007199254740991 < v ∨ (v = 0 ∧ sg ≠ []) then .no 0 else .ok 3 (sg ++ (if hd48 r then [48] else r.take (tk dgB r))) (sg ++ (if hd48 r then [48] else r.take (tk dgB r))).length) := by
    intro r sg hsg hsn hr
    have hdrop : (sg ++ r).drop (sgN (sg ++ r)) = r := by rw [hsn, List.drop_left]
    have hdg : (if hd48 r then [48] else r.take (tk dgB r)) = r.take (dgN (sg ++ r)) := by
      unfold dgN
      rw [hdrop]
      by_cases h : hd48 r = true
      · rw [if_pos h, if_pos h]
        obtain ⟨t, rfl⟩ := hd48_is h
        rfl
      · rw [if_neg h, if_neg h]
    have hlen : dgN (sg ++ r) ≤ r.length := by
      have := dgN_le (sg ++ r)
      rw [hsn, List.length_append] at this
      omega
    have hall : ∀ c ∈ r.take (dgN (sg ++ r)), dgB c = true := by
      rw [← hdg]
      split
      · intro c hc
        simp only [List.mem_singleton] at hc
        subst hc
        decide
      · exact tk_all dgB r
    have hv : vlN (sg ++ r) = dvB (r.take (dgN (sg ++ r))) := by unfold vlN; rw [hdrop]
    have htk : (sg ++ r).take (sgN (sg ++ r) + dgN (sg ++ r)) = sg ++ r.take (dgN (sg ++ r)) := by
      rw [hsn, List.take_length_add_append]
    have hsum : (sg ++ r.take (dgN (sg ++ r))).length = sgN (sg ++ r) + dgN (sg ++ r) := by
      rw [List.length_append, List.length_take, hsn, Nat.min_eq_left hlen]
    rw [hdg]
    unfold numL
    rw [hv, htk, hsum]
    have hlt : (r.take (dgN (sg ++ r))).length = dgN (sg ++ r) := by rw [List.length_take, Nat.min_eq_left hlen]
    generalize hd : r.take (dgN (sg ++ r)) = d at *
    generalize dgN (sg ++ r) = n at *
    rw [hsn]
    by_cases h0 : n = 0
    · left
      have : d = [] := List.eq_nil_of_length_eq_zero (by omega)
      subst this
      refine ⟨?_, by rw [if_pos (Or.inl h0)]⟩
      rcases hsg with rfl | rfl
      · rfl
      · rw [List.append_nil, Lib.parseIntB_minus]; rfl
    · right
      have hne : d ≠ [] := fun e => h0 (by rw [← hlt, e]; rfl)
      rcases hsg with rfl | rfl
      · rw [List.nil_append, intB_dg hall hne]
        by_cases hb : dvB d < 9223372036854775808
        · right
          refine ⟨dvB d, by rw [if_pos hb], ?_⟩
          by_cases hm : 9007199254740991 < dvB d
          · rw [if_pos (Or.inr (Or.inl hm)), if_pos (Or.inr (Or.inl (by omega)))]
          · rw [if_neg (by simp; omega), if_neg (by simp; omega)]
        · left
          exact ⟨by rw [if_neg hb], by rw [if_pos (Or.inr (Or.inl (by omega)))]⟩
      · rw [List.singleton_append, intB_neg hall hne]
        by_cases hb : dvB d ≤ 9223372036854775808
        · right
          refine ⟨-(dvB d : Int), by rw [if_pos hb], ?_⟩
          by_cases hm : 9007199254740991 < dvB d
          · rw [if_pos (Or.inr (Or.inl hm)), if_pos (Or.inl (by omega))]
          · by_cases hz : dvB d = 0
            · rw [if_pos (Or.inr (Or.inr ⟨rfl, hz⟩)), if_pos (Or.inr (Or.inr ⟨by omega, by simp⟩))]
            · rw [if_neg (by simp; omega), if_neg (by simp; omega)]
        · left
          exact ⟨by rw [if_neg hb], by rw [if_pos (Or.inr (Or.inl (by omega)))]⟩
  have hdT : dgU l = if hd48 (l.drop (tk mnB l)) then [48] else (l.drop (tk mnB l)).take (tk dgB (l.drop (tk mnB l))) := by
    unfold dgU dgT
    rw [hd48_take]
  have hsplit : l.take (tk mnB l) ++ l.drop (tk mnB l) = l := List.take_append_drop _ _
  have hlen := tk_le mnB l
  have hall := tk_all mnB l
  have hnext := tk_next mnB l
  have hhd : ∀ c t, l.drop (tk mnB l) = c :: t → c ≠ 45 := fun c t h e => by
    have := hnext c (by rw [h]; rfl)
    subst e
    exact absurd this (by decide)
  unfold prN
  rw [hdT]
  unfold mnT
  rcases Nat.lt_or_ge (tk mnB l) 2 with h2 | h2
  · by_cases h1 : tk mnB l = 0
    · have hs0 : sgN l = 0 := by
        rw [h1, List.drop_zero] at hhd
        unfold sgN
        cases l with
        | nil => rfl
        | cons c t =>
          have := hhd c t rfl
          have hc : ¬ c.toNat = 45 := fun e => this (UInt8.toNat_inj.1 e)
          simp [hd45, hc]
      have := key (l.drop (tk mnB l)) [] (.inl rfl) (by rw [h1]; exact hs0) hhd
      rw [h1, List.take_zero]
      rw [h1] at this
      exact this
    · have h1' : tk mnB l = 1 := by omega
      cases l with
      | nil => simp [tk] at h1
      | cons c t =>
        have hc : c = 45 := mnB_is (hall c (by rw [h1']; simp))
        subst hc
        have := key t [45] (.inr rfl) rfl (by rw [h1'] at hhd; exact hhd)
        rw [h1']
        exact this
  · left
    -- two signs
    match l, h2, hall, hlen with
    | [], h2, _, _ => simp [tk] at h2
    | [c], h2, _, hlen => simp at hlen; omega
    | c :: d :: t, h2, hall, _ =>
      have hc : c = 45 := mnB_is (hall c (by
        obtain ⟨n, hn⟩ : ∃ n, tk mnB (c :: d :: t) = n + 2 := ⟨tk mnB (c :: d :: t) - 2, by omega⟩
        rw [hn]; simp))
      have hd' : d = 45 := mnB_is (hall d (by
        obtain ⟨n, hn⟩ : ∃ n, tk mnB (c :: d :: t) = n + 2 := ⟨tk mnB (c :: d :: t) - 2, by omega⟩
        rw [hn]; simp))
      subst hc hd'
      obtain ⟨n, hn⟩ : ∃ n, tk mnB (45 :: 45 :: t) = n + 2 := ⟨tk mnB (45 :: 45 :: t) - 2, by omega⟩
      refine ⟨?_, ?_⟩
      · rw [hn]
        simp only [List.take_succ_cons, List.cons_append]
        rw [Lib.parseIntB_minus]
        unfold Lib.parseUintB
        rw [if_neg (by simp)]
        simp only [Lib.parseUintM]
        rw [if_neg (by decide)]
        rfl
      · unfold numL
        rw [if_pos (Or.inl ?_)]
        unfold dgN
        rfl
end Go.Proofs.YtejniiehfangkaaGreatDoor
