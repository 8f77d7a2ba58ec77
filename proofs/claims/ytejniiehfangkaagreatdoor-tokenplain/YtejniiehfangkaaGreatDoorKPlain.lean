/- Texts cut into tokens, as bytes: what stands between, what stands first, and all of them. No program in it. -/
import Derived.Test.YtejniiehfangkaaGreatDoorQPlain
import Derived.Test.YtejniiehfangkaaGreatDoorBPlain
set_option linter.unusedVariables false
set_option linter.unusedSimpArgs false
namespace Go.Proofs.YtejniiehfangkaaGreatDoor
def dgB (c : UInt8) : Bool := isD (c.toNat : Int)
def lrB (c : UInt8) : Bool := isL (c.toNat : Int)
def nmB (c : UInt8) : Bool := lrB c || dgB c
def mnB (c : UInt8) : Bool := (c.toNat : Int) == 45
/-- A byte that parts a number. -/
def ptB (c : UInt8) : Bool := nmB c || c.toNat == 46
def sgB (c : UInt8) : Bool := c.toNat == 33 || c.toNat == 36 || c.toNat == 38 || c.toNat == 40 || c.toNat == 41 || c.toNat == 58 || c.toNat == 61 || c.toNat == 64 || c.toNat == 91 || c.toNat == 93 || c.toNat == 123 || c.toNat == 124 || c.toNat == 125
/-- As many as a rule says. -/
def tk (p : UInt8 → Bool) : List UInt8 → Nat
  | [] => 0
  | c :: t => if p c then tk p t + 1 else 0
theorem tk_le (p : UInt8 → Bool) : ∀ l, tk p l ≤ l.length
  | [] => Nat.le_refl _
  | c :: t => by
    unfold tk
    split
    · have := tk_le p t; simp only [List.length_cons]; omega
    · exact Nat.zero_le _
theorem tk_all (p : UInt8 → Bool) : ∀ l : List UInt8, ∀ c ∈ l.take (tk p l), p c = true
  | [] => by simp [tk]
  | c :: t => by
    unfold tk
    by_cases h : p c = true
    · rw [if_pos h, List.take_succ_cons]
      intro d hd
      rcases List.mem_cons.1 hd with rfl | hd
      · exact h
      · exact tk_all p t d hd
    · rw [if_neg h]; simp
theorem tk_next (p : UInt8 → Bool) : ∀ (l : List UInt8) (c : UInt8), (l.drop (tk p l)).head? = some c → p c = false
  | [], c => by simp [tk]
  | d :: t, c => by
    unfold tk
    by_cases h : p d = true
    · rw [if_pos h, List.drop_succ_cons]; exact tk_next p t c
    · rw [if_neg h]
      simp only [List.drop_zero, List.head?_cons, Option.some.injEq]
      rintro rfl
      simpa using h
theorem tk_app (p : UInt8 → Bool) : ∀ a b : List UInt8, (∀ c ∈ a, p c = true) → tk p (a ++ b) = a.length + tk p b
  | [], b, _ => by simp
  | c :: a, b, h => by
    simp only [List.cons_append, tk]
    rw [if_pos (h c (by simp)), tk_app p a b (fun d hd => h d (by simp [hd]))]
    simp only [List.length_cons]; omega
theorem tk_stop (p : UInt8 → Bool) (l : List UInt8) (h : ∀ c, l.head? = some c → p c = false) : tk p l = 0 := by
  cases l with
  | nil => rfl
  | cons c t => unfold tk; rw [h c rfl]; rfl
/-- The number of digits. -/
def dvB (l : List UInt8) : Nat := l.foldl (fun a c => a * 10 + (c.toNat - 48)) 0
/-- How many bytes may stand between tokens; r: within a remark. -/
def betw : Bool → List UInt8 → Nat
  | _, [] => 0
  | r, c :: t => if c.toNat = 10 ∨ c.toNat = 13 then betw false t + 1 else if c.toNat = 35 then betw true t + 1 else if c.toNat = 32 ∨ c.toNat = 9 ∨ c.toNat = 44 then betw r t + 1 else if r then betw r t + 1 else 0
theorem betw_le : ∀ r l, betw r l ≤ l.length
  | _, [] => Nat.le_refl _
  | r, c :: t => by
    have h1 := betw_le false t
    have h2 := betw_le true t
    have h3 := betw_le r t
    unfold betw
    simp only [List.length_cons]
    repeat' split
    all_goals omega
/-- A byte that begins a token, or is none that may stand between. -/
def bgB (c : UInt8) : Bool := !(c.toNat == 10 || c.toNat == 13 || c.toNat == 35 || c.toNat == 32 || c.toNat == 9 || c.toNat == 44)
theorem bgB_betw (c : UInt8) (t : List UInt8) (h : bgB c = true) : betw false (c :: t) = 0 := by
  simp only [bgB, Bool.not_eq_true', Bool.or_eq_false_iff, beq_eq_false_iff_ne, ne_eq] at h
  unfold betw
  rw [if_neg (by omega), if_neg (by omega), if_neg (by omega)]
  rfl
/-- What stands behind all that may stand between begins something. -/
theorem betw_next : ∀ (l : List UInt8) (r : Bool) (c : UInt8), (l.drop (betw r l)).head? = some c → bgB c = true
  | [], r, c => by simp
  | d :: t, r, c => by
    unfold betw
    by_cases h1 : d.toNat = 10 ∨ d.toNat = 13
    · rw [if_pos h1, List.drop_succ_cons]; exact betw_next t false c
    rw [if_neg h1]
    by_cases h2 : d.toNat = 35
    · rw [if_pos h2, List.drop_succ_cons]; exact betw_next t true c
    rw [if_neg h2]
    by_cases h3 : d.toNat = 32 ∨ d.toNat = 9 ∨ d.toNat = 44
    · rw [if_pos h3, List.drop_succ_cons]; exact betw_next t r c
    rw [if_neg h3]
    cases r
    · simp only [Bool.false_eq_true, if_false, List.drop_zero, List.head?_cons, Option.some.injEq]
      rintro rfl
      simp only [bgB, Bool.not_eq_true', Bool.or_eq_false_iff, beq_eq_false_iff_ne, ne_eq]
      omega
    · rw [if_pos rfl, List.drop_succ_cons]; exact betw_next t true c
/-- What stands first: its kind, what it tells, how many bytes it takes; or the place of what is wrong. -/
inductive Fst where
  | ok (k : Nat) (s : List UInt8) (n : Nat)
  | no (b : Nat)
def hd48 (l : List UInt8) : Bool := match l with
  | c :: _ => c.toNat == 48
  | [] => false
def hd45 (l : List UInt8) : Bool := match l with
  | c :: _ => c.toNat == 45
  | [] => false
/-- A sign ahead of a number, as long as it is; its digits. -/
def sgN (l : List UInt8) : Nat := if hd45 l then 1 else 0
def dgN (l : List UInt8) : Nat := if hd48 (l.drop (sgN l)) then 1 else tk dgB (l.drop (sgN l))
def vlN (l : List UInt8) : Nat := dvB ((l.drop (sgN l)).take (dgN l))
def numL (l : List UInt8) : Fst :=
  if dgN l = 0 ∨ 9007199254740991 < vlN l ∨ (sgN l = 1 ∧ vlN l = 0) then .no 0 else .ok 3 (l.take (sgN l + dgN l)) (sgN l + dgN l)
def rw3 (l : List UInt8) : Bool := [34, 34, 34].isPrefixOf l
/-- Where the row is that ends a raw text: k bytes are passed over; p: the byte ahead. -/
def rawE : Nat → UInt8 → List UInt8 → Option Nat
  | _, _, [] => none
  | k + 1, _, c :: t => (rawE k c t).map (· + 1)
  | 0, p, c :: t => if rw3 (c :: t) then (if p.toNat = 92 then (rawE 2 c t).map (· + 1) else some 0) else (rawE 0 c t).map (· + 1)
def ctB (c : UInt8) : Bool := decide (c.toNat < 32) && !(c.toNat == 9 || c.toNat == 10 || c.toNat == 13)
def rawL (l : List UInt8) : Fst := match rawE 0 34 (l.drop 3) with
  | none => .no 0
  | some j => if ((l.drop 3).take j).any ctB then .no 0 else .ok 4 (Bk.valM ((l.drop 3).take j)) (j + 6)
def strL (l : List UInt8) : Fst := if (unq ⟨l.toArray⟩).2.2 = 0 then .ok 4 (unq ⟨l.toArray⟩).1 (unq ⟨l.toArray⟩).2.1 else .no (unq ⟨l.toArray⟩).2.1
def namL (l : List UInt8) : Fst := if tk nmB l = 0 then .no 0 else .ok 2 (l.take (tk nmB l)) (tk nmB l)
def fstL (l : List UInt8) : Fst := match l with
  | [] => .no 0
  | c :: t =>
    if sgB c then .ok 1 [c] 1
    else if c.toNat = 46 then (if [46, 46, 46].isPrefixOf (c :: t) then .ok 1 [46, 46, 46] 3 else .no 0)
    else if c.toNat = 45 ∨ dgB c = true then numL (c :: t)
    else if c.toNat = 34 then (if rw3 (c :: t) then rawL (c :: t) else strL (c :: t))
    else namL (c :: t)
structure Tkn where
  k : Nat
  s : List UInt8
  a : Nat
def hdP (l : List UInt8) : Bool := match l with
  | c :: _ => ptB c
  | [] => false
abbrev Toks := Sum (List Tkn) (Int × Nat)
/-- The tokens from here on: l: what is left; e: its place; n: how many there are; nb: the last one is a number. -/
def lexF : Nat → List UInt8 → Nat → Nat → Bool → Toks
  | 0, _, e, _, _ => .inr (3, e)
  | f + 1, l, e, n, nb =>
    if (l.drop (betw false l)).isEmpty then .inl []
    else if n = 900 then .inr (6, e + betw false l)
    else if betw false l = 0 ∧ nb = true ∧ hdP l = true then .inr (3, e)
    else match fstL (l.drop (betw false l)) with
      | .no j => .inr (3, e + betw false l + j)
      | .ok k s m => match lexF f (l.drop (betw false l + m)) (e + betw false l + m) (n + 1) (k == 3) with
        | .inr q => .inr q
        | .inl ts => .inl (⟨k, s, e + betw false l⟩ :: ts)
def lexL (l : List UInt8) : Toks := lexF (l.length + 1) l 0 0 false
/-- What Lex answers. -/
def lexB (s : ByteArray) : Toks := if 4000 < s.size then .inr (6, 0) else if 0 ≤ badI s then .inr (2, (badI s).toNat) else lexL s.data.toList
/-! ### how far -/
def FIn (l : List UInt8) : Fst → Prop
  | .ok _ _ n => 1 ≤ n ∧ n ≤ l.length
  | .no b => b ≤ l.length
theorem sgN_le (l : List UInt8) : sgN l ≤ l.length ∧ sgN l ≤ 1 := by
  unfold sgN
  cases l with
  | nil => simp [hd45]
  | cons c t => split <;> simp
theorem dgN_le (l : List UInt8) : sgN l + dgN l ≤ l.length := by
  have h1 := sgN_le l
  have h2 := tk_le dgB (l.drop (sgN l))
  rw [List.length_drop] at h2
  unfold dgN
  split
  · rename_i h
    cases hd : l.drop (sgN l) with
    | nil => rw [hd] at h; simp [hd48] at h
    | cons c t =>
      have := congrArg List.length hd
      rw [List.length_drop, List.length_cons] at this
      omega
  · omega
theorem num_fin (l : List UInt8) : FIn l (numL l) := by
  have h := dgN_le l
  unfold numL
  split
  · exact Nat.zero_le _
  · rename_i c
    exact ⟨by omega, h⟩
theorem rw3_len {l : List UInt8} (h : rw3 l = true) : 3 ≤ l.length := by
  unfold rw3 at h
  rw [List.isPrefixOf_iff_prefix] at h
  exact h.length_le
theorem rawE_in : ∀ (l : List UInt8) (k : Nat) (p : UInt8) (j : Nat), rawE k p l = some j → j + 3 ≤ l.length ∧ rw3 (l.drop j) = true
  | [], k, p, j, h => by cases k <;> simp [rawE] at h
  | c :: t, k + 1, p, j, h => by
    simp only [rawE, Option.map_eq_some_iff] at h
    obtain ⟨i, hi, rfl⟩ := h
    have := rawE_in t k c i hi
    exact ⟨by simp only [List.length_cons]; omega, by rw [List.drop_succ_cons]; exact this.2⟩
  | c :: t, 0, p, j, h => by
    unfold rawE at h
    by_cases h1 : rw3 (c :: t) = true
    · rw [if_pos h1] at h
      by_cases h2 : p.toNat = 92
      · rw [if_pos h2, Option.map_eq_some_iff] at h
        obtain ⟨i, hi, rfl⟩ := h
        have := rawE_in t 2 c i hi
        exact ⟨by simp only [List.length_cons]; omega, by rw [List.drop_succ_cons]; exact this.2⟩
      · rw [if_neg h2, Option.some.injEq] at h
        subst h
        exact ⟨by have := rw3_len h1; omega, h1⟩
    · rw [if_neg h1, Option.map_eq_some_iff] at h
      obtain ⟨i, hi, rfl⟩ := h
      have := rawE_in t 0 c i hi
      exact ⟨by simp only [List.length_cons]; omega, by rw [List.drop_succ_cons]; exact this.2⟩
theorem raw_fin (l : List UInt8) : FIn l (rawL l) := by
  unfold rawL
  cases h : rawE 0 34 (l.drop 3) with
  | none => exact Nat.zero_le _
  | some j =>
    have := rawE_in _ _ _ _ h
    rw [List.length_drop] at this
    simp only
    split
    · exact Nat.zero_le _
    · exact ⟨by omega, by omega⟩
theorem unqF_inn (s : ByteArray) : ∀ f i o, i ≤ s.size → (unqF s f i o).2.1 ≤ s.size ∧ ((unqF s f i o).2.2 = 0 → i < (unqF s f i o).2.1)
  | 0, i, o, h => by simp [unqF]
  | f + 1, i, o, h => by
    unfold unqF
    by_cases h1 : i < s.size
    · rw [if_pos h1]
      by_cases h2 : (s.get! i).toNat = 34
      · rw [if_pos h2]; exact ⟨h1, fun _ => by simp⟩
      rw [if_neg h2]
      by_cases h3 : (s.get! i).toNat < 32
      · rw [if_pos h3]; exact ⟨h, fun e => by simp at e⟩
      rw [if_neg h3]
      by_cases h4 : (s.get! i).toNat = 92
      · rw [if_pos h4]
        by_cases h5 : (escR s i).2 = 0
        · rw [if_pos h5]; exact ⟨h, fun e => by simp at e⟩
        · rw [if_neg h5]
          have hk : 2 ≤ (escR s i).2 ∧ i + (escR s i).2 ≤ s.size := by
            rcases escR_ok s i with e | e
            · exact absurd e h5
            · exact ⟨e.1, e.2.2.1⟩
          obtain ⟨a, b⟩ := unqF_inn s f (i + (escR s i).2) (o ++ encL (escR s i).1) hk.2
          exact ⟨a, fun e => by have := b e; omega⟩
      · rw [if_neg h4]
        by_cases h5 : badAt s i = true
        · rw [if_pos h5]; exact ⟨h, fun e => by simp at e⟩
        · rw [if_neg h5]
          have hk := dec_in s i h1
          obtain ⟨a, b⟩ := unqF_inn s f (i + (Utf8.decode s i).2) (o ++ encL (Utf8.decode s i).1) hk.2.1
          exact ⟨a, fun e => by have := b e; omega⟩
    · rw [if_neg h1]; simp
theorem unq_in (s : ByteArray) : (unq s).2.1 ≤ s.size ∧ ((unq s).2.2 = 0 → 1 < (unq s).2.1) := by
  unfold unq
  by_cases h : 0 < s.size ∧ (s.get! 0).toNat = 34
  · rw [if_pos h]; exact unqF_inn s _ 1 [] h.1
  · rw [if_neg h]; simp
theorem str_fin (l : List UInt8) : FIn l (strL l) := by
  have h := unq_in ⟨l.toArray⟩
  have hs : (⟨l.toArray⟩ : ByteArray).size = l.length := by simp [ByteArray.size]
  rw [hs] at h
  unfold strL
  split
  · rename_i e; exact ⟨by have := h.2 e; omega, h.1⟩
  · exact h.1
theorem nam_fin (l : List UInt8) : FIn l (namL l) := by
  have := tk_le nmB l
  unfold namL
  split
  · exact Nat.zero_le _
  · exact ⟨by omega, this⟩
theorem fst_in (l : List UInt8) : FIn l (fstL l) := by
  unfold fstL
  cases l with
  | nil => exact Nat.le_refl _
  | cons c t =>
    simp only
    split
    · exact ⟨Nat.le_refl _, by simp⟩
    split
    · split
      · rename_i h
        rw [List.isPrefixOf_iff_prefix] at h
        have := h.length_le
        exact ⟨by omega, this⟩
      · exact Nat.zero_le _
    split
    · exact num_fin _
    split
    · split
      · exact raw_fin _
      · exact str_fin _
    · exact nam_fin _
/-! ### one token, then the others -/
def consT (ts : List Tkn) : Toks → Toks
  | .inl us => .inl (ts ++ us)
  | .inr q => .inr q
theorem consT_nil (G : Toks) : consT [] G = G := by cases G <;> rfl
theorem consT_consT (a b : List Tkn) (G : Toks) : consT a (consT b G) = consT (a ++ b) G := by cases G <;> simp [consT]
theorem lexF_end {f : Nat} {l : List UInt8} {e n : Nat} {nb : Bool} (h : l.length ≤ betw false l) : lexF (f + 1) l e n nb = .inl [] := by
  unfold lexF
  rw [if_pos (by rw [List.drop_of_length_le h]; rfl)]
theorem drop_some' {l : List UInt8} {b : Nat} (h : b < l.length) : (l.drop b).isEmpty = false := by
  rw [List.drop_eq_getElem_cons h]; rfl
theorem lexF_many {f : Nat} {l : List UInt8} {e n : Nat} {nb : Bool} (h : betw false l < l.length) (hn : n = 900) : lexF (f + 1) l e n nb = .inr (6, e + betw false l) := by
  unfold lexF
  rw [drop_some' h, if_neg (by simp), if_pos hn]
theorem lexF_part {f : Nat} {l : List UInt8} {e n : Nat} {nb : Bool} (h : betw false l < l.length) (hn : n ≠ 900) (hp : betw false l = 0 ∧ nb = true ∧ hdP l = true) : lexF (f + 1) l e n nb = .inr (3, e) := by
  unfold lexF
  rw [drop_some' h, if_neg (by simp), if_neg hn, if_pos hp]
theorem lexF_no {f : Nat} {l : List UInt8} {e n : Nat} {nb : Bool} {j : Nat} (h : betw false l < l.length) (hn : n ≠ 900) (hp : ¬ (betw false l = 0 ∧ nb = true ∧ hdP l = true)) (hf : fstL (l.drop (betw false l)) = .no j) : lexF (f + 1) l e n nb = .inr (3, e + betw false l + j) := by
  unfold lexF
  rw [drop_some' h, if_neg (by simp), if_neg hn, if_neg hp, hf]
theorem lexF_ok {f : Nat} {l : List UInt8} {e n : Nat} {nb : Bool} {k m : Nat} {x : List UInt8} (h : betw false l < l.length) (hn : n ≠ 900) (hp : ¬ (betw false l = 0 ∧ nb = true ∧ hdP l = true)) (hf : fstL (l.drop (betw false l)) = .ok k x m) :
    lexF (f + 1) l e n nb = consT [⟨k, x, e + betw false l⟩] (lexF f (l.drop (betw false l + m)) (e + betw false l + m) (n + 1) (k == 3)) := by
  conv => lhs; unfold lexF
  rw [drop_some' h, if_neg (by simp), if_neg hn, if_neg hp, hf]
  dsimp only
  cases lexF f (l.drop (betw false l + m)) (e + betw false l + m) (n + 1) (k == 3) <;> rfl
theorem fst_step {l : List UInt8} {k m : Nat} {x : List UInt8} (h : betw false l < l.length) (hf : fstL (l.drop (betw false l)) = .ok k x m) : 1 ≤ m ∧ betw false l + m ≤ l.length := by
  have := fst_in (l.drop (betw false l))
  rw [hf] at this
  have h2 := this.2
  rw [List.length_drop] at h2
  exact ⟨this.1, by omega⟩
/-- Fuel that is enough is as good as more. -/
theorem lexF_fuel : ∀ (f g : Nat) (l : List UInt8) (e n : Nat) (nb : Bool), l.length < f → l.length < g → lexF f l e n nb = lexF g l e n nb
  | 0, _, _, _, _, _, h, _ => by omega
  | _ + 1, 0, _, _, _, _, _, h => by omega
  | f + 1, g + 1, l, e, n, nb, hf, hg => by
    by_cases h : betw false l < l.length
    · by_cases hn : n = 900
      · rw [lexF_many h hn, lexF_many h hn]
      by_cases hp : betw false l = 0 ∧ nb = true ∧ hdP l = true
      · rw [lexF_part h hn hp, lexF_part h hn hp]
      cases hx : fstL (l.drop (betw false l)) with
      | no j => rw [lexF_no h hn hp hx, lexF_no h hn hp hx]
      | ok k x m =>
        have hs := fst_step h hx
        rw [lexF_ok h hn hp hx, lexF_ok h hn hp hx, lexF_fuel f g _ _ _ _ (by rw [List.length_drop]; omega) (by rw [List.length_drop]; omega)]
    · rw [lexF_end (by omega), lexF_end (by omega)]
end Go.Proofs.YtejniiehfangkaaGreatDoor
