/- Plain facts on texts of several lines: indents, values, raw texts. No program in it. -/
import Derived.Test.YtejniiehfangkaaGreatDoorPlainD
import Derived.Lib.IndexMore
import Derived.Lib.Join
set_option linter.unusedVariables false
set_option linter.unusedSimpArgs false
namespace Go.Proofs.YtejniiehfangkaaGreatDoor.Bk
/-- A blank. -/
def bl (c : UInt8) : Bool := c == 32 || c == 9
/-- How many blanks a line begins with. -/
def ahd : List UInt8 → Nat
  | [] => 0
  | c :: r => if bl c then ahd r + 1 else 0
def blk (l : List UInt8) : Bool := ahd l == l.length
theorem ahd_le : ∀ l : List UInt8, ahd l ≤ l.length
  | [] => Nat.le_refl _
  | c :: r => by rw [ahd, List.length_cons]; have := ahd_le r; split <;> omega
theorem ahd_drop : ∀ l : List UInt8, l.dropWhile ([(32 : UInt8), 9].contains ·) = l.drop (ahd l)
  | [] => rfl
  | c :: r => by
    have e : [(32 : UInt8), 9].contains c = bl c := by simp [bl, Bool.beq_eq_decide_eq]
    rw [List.dropWhile_cons, ahd, e]
    cases bl c
    · rfl
    · simp only [if_true, List.drop_succ_cons]; exact ahd_drop r
/-- The first place where no blank stands. -/
theorem ahd_at : ∀ (l : List UInt8) (i : Nat), i ≤ l.length → (∀ j, j < i → ∃ c, l[j]? = some c ∧ bl c = true) → (∀ c, l[i]? = some c → bl c = false) → ahd l = i
  | [], i, hi, _, _ => by simp at hi; subst hi; rfl
  | c :: r, 0, _, _, h2 => by rw [ahd, h2 c rfl]; rfl
  | c :: r, i + 1, hi, h1, h2 => by
    obtain ⟨c', hc, hb⟩ := h1 0 (by omega)
    obtain rfl : c = c' := by simpa using hc
    rw [ahd, hb, if_pos rfl, ahd_at r i (by simpa using hi) (fun j hj => by simpa using h1 (j + 1) (by omega)) (fun d hd => h2 d (by simpa using hd))]
theorem ahd_app : ∀ (b l : List UInt8), (∀ c ∈ b, bl c = true) → ahd (b ++ l) = b.length + ahd l
  | [], l, _ => by simp
  | c :: b, l, h => by
    rw [List.cons_append, ahd, h c (by simp), if_pos rfl, ahd_app b l (fun d hd => h d (by simp [hd])), List.length_cons]; omega
theorem blk_app (b l : List UInt8) (h : ∀ c ∈ b, bl c = true) : blk (b ++ l) = blk l := by
  unfold blk; rw [ahd_app b l h, List.length_append, Bool.eq_iff_iff]; simp
theorem blk_nil : blk [] = true := rfl
/-- The least indent so far, one line more. -/
def stepI (acc : Option Nat) (l : List UInt8) : Option Nat := if blk l then acc else match acc with | none => some (ahd l) | some n => some (min n (ahd l))
def indA (acc : Option Nat) (ls : List (List UInt8)) : Option Nat := ls.foldl stepI acc
def accAt (ls : List (List UInt8)) (k : Nat) : Option Nat := indA none (ls.take k).tail
def ind (ls : List (List UInt8)) : Nat := (indA none ls.tail).getD 0
theorem accAt_one (ls : List (List UInt8)) (k : Nat) (h : k ≤ 1) : accAt ls k = none := by
  unfold accAt
  have : (ls.take k).tail = [] := by
    have : (ls.take k).tail.length = 0 := by simp; omega
    exact List.eq_nil_of_length_eq_zero this
  rw [this]; rfl
theorem accAt_next (ls : List (List UInt8)) (k : Nat) (x : List UInt8) (hk : 1 ≤ k) (h : ls[k]? = some x) : accAt ls (k + 1) = stepI (accAt ls k) x := by
  unfold accAt indA
  rw [List.take_add_one, h]
  have hl : 0 < (ls.take k).length := by have := (List.getElem?_eq_some_iff.1 h).1; simp; omega
  obtain ⟨y, r, e⟩ : ∃ y r, ls.take k = y :: r := by
    cases hh : ls.take k with
    | nil => rw [hh] at hl; simp at hl
    | cons y r => exact ⟨y, r, rfl⟩
  rw [e]
  simp [List.foldl_append]
theorem ind_at (ls : List (List UInt8)) (k : Nat) (h : ls.length ≤ k) : ind ls = (accAt ls k).getD 0 := by
  unfold ind accAt; rw [List.take_of_length_le h]
theorem indA_blank : ∀ (ls : List (List UInt8)) (acc : Option Nat), (∀ l ∈ ls, blk l = true) → indA acc ls = acc
  | [], _, _ => rfl
  | l :: r, acc, h => by
    show indA (stepI acc l) r = acc
    unfold stepI; rw [h l (by simp), if_pos rfl]; exact indA_blank r acc (fun x hx => h x (by simp [hx]))
theorem indA_more (b : List UInt8) (h : ∀ c ∈ b, bl c = true) : ∀ (ls : List (List UInt8)) (acc : Option Nat), indA (acc.map (b.length + ·)) (ls.map (b ++ ·)) = (indA acc ls).map (b.length + ·)
  | [], _ => rfl
  | l :: r, acc => by
    show indA (stepI (acc.map (b.length + ·)) (b ++ l)) (r.map (b ++ ·)) = (indA (stepI acc l) r).map (b.length + ·)
    rw [← indA_more b h r (stepI acc l)]
    congr 1
    unfold stepI
    rw [blk_app b l h, ahd_app b l h]
    cases blk l
    · cases acc with
      | none => rfl
      | some n => simp only [Option.map_some, Bool.false_eq_true, if_false]; congr 1; omega
    · rfl
theorem indA_none : ∀ (ls : List (List UInt8)), indA none ls = none → ∀ l ∈ ls, blk l = true
  | [], _, _, hl => by simp at hl
  | x :: r, h, l, hl => by
    have keep : ∀ (ls : List (List UInt8)) (n : Nat), indA (some n) ls ≠ none := by
      intro ls
      induction ls with
      | nil => intro n h; cases h
      | cons y s ih =>
        intro n h
        have h' : indA (stepI (some n) y) s = none := h
        unfold stepI at h'
        by_cases hy : blk y = true
        · rw [if_pos hy] at h'; exact ih _ h'
        · rw [if_neg hy] at h'; exact ih _ h'
    have h' : indA (stepI none x) r = none := h
    unfold stepI at h'
    cases hb : blk x
    · rw [hb] at h'; exact (keep _ _ (by simpa using h')).elim
    · rw [hb] at h'
      rcases List.mem_cons.1 hl with rfl | hl
      · exact hb
      · exact indA_none r (by simpa using h') l hl
/-- Rows in the place of others, from the left. -/
def turnF (old new : List UInt8) : Nat → List UInt8 → List UInt8
  | 0, _ => []
  | _ + 1, [] => []
  | f + 1, c :: r => if old.isPrefixOf (c :: r) then new ++ turnF old new f ((c :: r).drop old.length) else c :: turnF old new f r
def turn (old new s : List UInt8) : List UInt8 := turnF old new s.length s
theorem turnF_nil (old new : List UInt8) (f : Nat) : turnF old new f [] = [] := by cases f <;> rfl
theorem turnF_fuel (old new : List UInt8) (ho : 1 ≤ old.length) : ∀ (f g : Nat) (s : List UInt8), s.length ≤ f → s.length ≤ g → turnF old new f s = turnF old new g s
  | _, _, [], _, _ => by rw [turnF_nil, turnF_nil]
  | 0, _, c :: r, h, _ => by simp at h
  | _, 0, c :: r, _, h => by simp at h
  | f + 1, g + 1, c :: r, h, h' => by
    rw [List.length_cons] at h h'
    rw [turnF, turnF, turnF_fuel old new ho f g r (by omega) (by omega), turnF_fuel old new ho f g ((c :: r).drop old.length) (by simp; omega) (by simp; omega)]
theorem turn_nil (old new : List UInt8) : turn old new [] = [] := rfl
theorem turn_hit (old new s : List UInt8) (ho : 1 ≤ old.length) (h : old.isPrefixOf s = true) : turn old new s = new ++ turn old new (s.drop old.length) := by
  cases s with
  | nil => cases old with
    | nil => simp at ho
    | cons a b => simp at h
  | cons c r =>
    unfold turn
    rw [List.length_cons, turnF, if_pos h]
    congr 1
    exact turnF_fuel old new ho _ _ _ (by simp; omega) (Nat.le_refl _)
theorem turn_miss (old new : List UInt8) (c : UInt8) (r : List UInt8) (h : old.isPrefixOf (c :: r) = false) : turn old new (c :: r) = c :: turn old new r := by
  unfold turn
  rw [List.length_cons, turnF, if_neg (by rw [h]; simp)]
theorem turn_cut (old new : List UInt8) (ho : 1 ≤ old.length) : ∀ (i : Nat) (s : List UInt8), i ≤ s.length → (∀ j, j < i → Lib.occAt s old j = false) → turn old new s = s.take i ++ turn old new (s.drop i)
  | 0, s, _, _ => by simp
  | i + 1, [], h, _ => by simp at h
  | i + 1, c :: r, h, hn => by
    have h0 := hn 0 (by omega)
    unfold Lib.occAt at h0
    rw [List.drop_zero] at h0
    rw [turn_miss old new c r h0, turn_cut old new ho i r (by simpa using h) (fun j hj => by have := hn (j + 1) (by omega); simpa [Lib.occAt] using this)]
    simp
theorem turn_found (old new s : List UInt8) (ho : 1 ≤ old.length) (h : (Lib.cut s old).2.2 = true) : turn old new s = (Lib.cut s old).1 ++ (new ++ turn old new (Lib.cut s old).2.1) ∧ (Lib.cut s old).1.length + old.length + (Lib.cut s old).2.1.length = s.length := by
  have hi : 0 ≤ Lib.index s old := by
    unfold Lib.cut at h; split at h
    · assumption
    · simp at h
  have hr := Lib.index_room s old hi
  rcases Lib.index_spec s old with ⟨h1, _⟩ | ⟨i, h1, h2, h3, h4⟩
  · omega
  · unfold Lib.cut
    rw [if_pos hi, h1]
    simp only [Int.toNat_natCast]
    refine ⟨?_, by simp; omega⟩
    rw [turn_cut old new ho i s h2 (fun j hj => h4 j hj), turn_hit old new (s.drop i) ho h3, List.drop_drop]
theorem turn_lost (old new s : List UInt8) (ho : 1 ≤ old.length) (h : (Lib.cut s old).2.2 = false) : turn old new s = s ∧ (Lib.cut s old).1 = s := by
  have hi : ¬ 0 ≤ Lib.index s old := by
    intro hh; unfold Lib.cut at h; rw [if_pos hh] at h; simp at h
  rcases Lib.index_spec s old with ⟨h1, h2⟩ | ⟨i, h1, _⟩
  · refine ⟨?_, by unfold Lib.cut; rw [if_neg hi]⟩
    rw [turn_cut old new ho s.length s (Nat.le_refl _) (fun j hj => h2 j (by omega))]
    simp [turn_nil]
  · omega
theorem turnF_len (old new : List UInt8) (hn : new.length ≤ 4) : ∀ (f : Nat) (s : List UInt8), 1 ≤ old.length → (turnF old new f s).length ≤ 4 * s.length
  | 0, _, _ => by simp [turnF]
  | _ + 1, [], _ => by simp [turnF]
  | f + 1, c :: r, ho => by
    rw [turnF]
    have h1 := turnF_len old new hn f ((c :: r).drop old.length) ho
    have h2 := turnF_len old new hn f r ho
    rw [List.length_drop, List.length_cons] at h1
    split
    · rw [List.length_append, List.length_cons]; omega
    · rw [List.length_cons, List.length_cons]; omega
theorem turn_len (old new s : List UInt8) (ho : 1 ≤ old.length) (hn : new.length ≤ 4) : (turn old new s).length ≤ 4 * s.length := turnF_len old new hn _ s ho
def rowL : List UInt8 := [34, 34, 34]
def escL : List UInt8 := [92, 34, 34, 34]
theorem row_row (l : List UInt8) : rowL.isPrefixOf l = true ↔ ∃ r, l = 34 :: 34 :: 34 :: r := by
  constructor
  · intro h
    match l, h with
    | [], h => simp [rowL] at h
    | [a], h => simp [rowL] at h
    | [a, b], h => simp [rowL] at h
    | a :: b :: c :: r, h => simp [rowL] at h; obtain ⟨rfl, rfl, rfl⟩ := h; exact ⟨r, rfl⟩
  · rintro ⟨r, rfl⟩; simp [rowL]
theorem esc_row (l : List UInt8) : escL.isPrefixOf l = true ↔ ∃ r, l = 92 :: r ∧ rowL.isPrefixOf r = true := by
  constructor
  · intro h
    cases l with
    | nil => simp [escL] at h
    | cons a r => rw [escL, List.isPrefixOf_cons_cons] at h; simp at h; obtain ⟨rfl, h⟩ := h; exact ⟨r, rfl, by simpa [rowL] using h⟩
  · rintro ⟨r, rfl, h⟩; rw [escL, List.isPrefixOf_cons_cons]; simp [rowL] at h ⊢; exact h
theorem turn_head (s : List UInt8) : ∀ r, turn rowL escL s = 34 :: r → ∃ t, s = 34 :: t ∧ turn rowL escL t = r ∧ rowL.isPrefixOf s = false := by
  intro r h
  cases s with
  | nil => simp [turn_nil] at h
  | cons c t =>
    cases hp : rowL.isPrefixOf (c :: t)
    · rw [turn_miss _ _ _ _ hp] at h
      simp at h
      obtain ⟨rfl, h⟩ := h
      exact ⟨t, rfl, h, rfl⟩
    · rw [turn_hit _ _ _ (by decide) hp] at h
      simp [escL] at h
/-- No row is left where rows are escaped. -/
theorem turn_norow (s : List UInt8) : rowL.isPrefixOf (turn rowL escL s) = false := by
  cases h : rowL.isPrefixOf (turn rowL escL s)
  · rfl
  · obtain ⟨r, hr⟩ := (row_row _).1 h
    obtain ⟨t, rfl, ht, hn⟩ := turn_head s _ hr
    obtain ⟨t2, rfl, ht2, _⟩ := turn_head t _ ht
    obtain ⟨t3, rfl, _, _⟩ := turn_head t2 _ ht2
    simp [rowL] at hn
theorem turn_back : ∀ (n : Nat) (s : List UInt8), s.length ≤ n → turn escL rowL (turn rowL escL s) = s
  | _, [], _ => rfl
  | 0, c :: r, h => by simp at h
  | n + 1, c :: r, h => by
    rw [List.length_cons] at h
    cases hp : rowL.isPrefixOf (c :: r)
    · rw [turn_miss _ _ _ _ hp]
      have hq : escL.isPrefixOf (c :: turn rowL escL r) = false := by
        cases hq : escL.isPrefixOf (c :: turn rowL escL r)
        · rfl
        · obtain ⟨r', e, h'⟩ := (esc_row _).1 hq
          simp at e
          rw [← e.2, turn_norow] at h'
          cases h'
      rw [turn_miss _ _ _ _ hq, turn_back n r (by omega)]
    · rw [turn_hit _ _ _ (by decide) hp, turn_hit escL rowL _ (by decide) (by simp [escL])]
      obtain ⟨r', e⟩ := (row_row _).1 hp
      have e1 : (c :: r).drop rowL.length = r' := by rw [e]; rfl
      have hl : r'.length ≤ n := by have := congrArg List.length e; simp at this; omega
      have e2 : (escL ++ turn rowL escL ((c :: r).drop rowL.length)).drop escL.length = turn rowL escL r' := by rw [e1, List.drop_left]
      rw [e2, turn_back n r' hl, e]; rfl
/-- The lines, as bytes. -/
def lnB (s : List UInt8) : List (List UInt8) := linesB false [] s
theorem linesB_pos : ∀ (r : List UInt8) (p : Bool) (cur : List UInt8), 1 ≤ (linesB p cur r).length
  | [], _, _ => by simp [linesB]
  | c :: r, p, cur => by
    rw [linesB]
    have h1 := linesB_pos r true []
    have h2 := linesB_pos r false []
    have h3 := linesB_pos r false (cur ++ [c])
    repeat' split
    all_goals (try rw [List.length_cons])
    all_goals omega
theorem linesB_lens : ∀ (r : List UInt8) (p : Bool) (cur : List UInt8), Lib.lens (linesB p cur r) + (linesB p cur r).length ≤ cur.length + r.length + 1
  | [], _, _ => by simp [linesB, Lib.lens]
  | c :: r, p, cur => by
    rw [linesB]
    have h1 := linesB_lens r true []
    have h2 := linesB_lens r false []
    have h3 := linesB_lens r false (cur ++ [c])
    have e : ∀ x : List (List UInt8), Lib.lens (cur :: x) = cur.length + Lib.lens x := fun x => by simp [Lib.lens]
    simp only [List.length_append, List.length_cons, List.length_nil] at *
    repeat' split
    all_goals (try simp only [e, List.length_cons])
    all_goals omega
theorem linesB_noend : ∀ (r : List UInt8) (p : Bool) (cur : List UInt8), NoEnd cur → ∀ l ∈ linesB p cur r, NoEnd l
  | [], _, _, h, l, hl => by simp [linesB] at hl; subst hl; exact h
  | c :: r, p, cur, h, l, hl => by
    rw [linesB] at hl
    have hn : NoEnd [] := fun d hd => by simp at hd
    split at hl
    · rcases List.mem_cons.1 hl with rfl | hl
      · exact h
      · exact linesB_noend r _ _ hn l hl
    · split at hl
      · split at hl
        · exact linesB_noend r _ _ hn l hl
        · rcases List.mem_cons.1 hl with rfl | hl
          · exact h
          · exact linesB_noend r _ _ hn l hl
      · refine linesB_noend r _ _ (fun d hd => ?_) l hl
        rcases List.mem_append.1 hd with hd | hd
        · exact h d hd
        · simp at hd; subst hd; exact ⟨by assumption, by assumption⟩
theorem lnB_end (s : List UInt8) : lnB (10 :: s) = [] :: lnB s := rfl
/-- So many bytes taken from each line but the first. -/
def cutL (n : Nat) : List (List UInt8) → List (List UInt8)
  | [] => []
  | x :: r => x :: r.map (List.drop n)
theorem cutL_len (n : Nat) (ls : List (List UInt8)) : (cutL n ls).length = ls.length := by cases ls <;> simp [cutL]
theorem cutL_zero (ls : List (List UInt8)) : cutL 0 ls = ls := by
  cases ls with
  | nil => rfl
  | cons x r =>
    have e : (List.drop 0 : List UInt8 → List UInt8) = id := by funext l; simp
    rw [cutL, e, List.map_id]
/-- Where the lines that aren't blank begin and end: a line more. -/
def ftS (st : Nat × Nat × Nat) (l : List UInt8) : Nat × Nat × Nat := (st.1 + 1, if blk l then st.2 else (if st.2.2 = 0 then st.1 else st.2.1, st.1 + 1))
def ftA (st : Nat × Nat × Nat) (ls : List (List UInt8)) : Nat × Nat × Nat := ls.foldl ftS st
def ft (ls : List (List UInt8)) : Nat × Nat := (ftA (0, 0, 0) ls).2
def edg (ls : List (List UInt8)) : List (List UInt8) := (ls.drop (ft ls).1).take ((ft ls).2 - (ft ls).1)
theorem ftA_one : ∀ (ls : List (List UInt8)) (st : Nat × Nat × Nat), (ftA st ls).1 = st.1 + ls.length
  | [], st => by simp [ftA]
  | l :: r, st => by
    show (ftA (ftS st l) r).1 = _
    rw [ftA_one r, List.length_cons]; simp only [ftS]; omega
theorem ft_next (ls : List (List UInt8)) (k : Nat) (x : List UInt8) (h : ls[k]? = some x) : ft (ls.take (k + 1)) = if blk x then ft (ls.take k) else (if (ft (ls.take k)).2 = 0 then k else (ft (ls.take k)).1, k + 1) := by
  have hk := (List.getElem?_eq_some_iff.1 h).1
  unfold ft
  rw [List.take_add_one, h]
  have e : ftA (0, 0, 0) (ls.take k ++ (some x).toList) = ftS (ftA (0, 0, 0) (ls.take k)) x := by unfold ftA; simp [List.foldl_append]
  have e1 := ftA_one (ls.take k) (0, 0, 0)
  have e2 : (ftA (0, 0, 0) (ls.take k)).1 = k := by rw [e1]; simp; omega
  rw [e]; unfold ftS; rw [e2]
/-- What ft says: all are blank, or the first and the last that aren't are told. -/
theorem ft_says : ∀ (k : Nat) (ls : List (List UInt8)), k ≤ ls.length →
    ((ft (ls.take k) = (0, 0) ∧ ∀ j x, j < k → ls[j]? = some x → blk x = true) ∨
     ((ft (ls.take k)).1 < (ft (ls.take k)).2 ∧ (ft (ls.take k)).2 ≤ k ∧ (∃ x, ls[(ft (ls.take k)).1]? = some x ∧ blk x = false) ∧ (∃ x, ls[(ft (ls.take k)).2 - 1]? = some x ∧ blk x = false) ∧
      (∀ j x, j < (ft (ls.take k)).1 → ls[j]? = some x → blk x = true) ∧ ∀ j x, (ft (ls.take k)).2 ≤ j → j < k → ls[j]? = some x → blk x = true))
  | 0, ls, _ => .inl ⟨by simp [ft, ftA], fun j x h => by omega⟩
  | k + 1, ls, hk => by
    obtain ⟨x, hx⟩ : ∃ x, ls[k]? = some x := ⟨ls[k], List.getElem?_eq_getElem (by omega)⟩
    have ih := ft_says k ls (by omega)
    rw [ft_next ls k x hx]
    generalize ft (ls.take k) = p at *
    obtain ⟨f, t⟩ := p
    cases hb : blk x
    · right
      rw [if_neg (by simp)]
      rcases ih with ⟨e, ha⟩ | ⟨h1, h2, h3, h4, h5, h6⟩
      · obtain ⟨rfl, rfl⟩ := Prod.mk.inj e
        rw [if_pos rfl]
        refine ⟨by simp, by simp, ⟨x, by simpa using hx, hb⟩, ⟨x, by simpa using hx, hb⟩, fun j y hj hy => ha j y (by simpa using hj) hy, fun j y h1 h2 => ?_⟩
        simp at h1; omega
      · simp only at h1 h2 h3 h4 h5 h6 ⊢
        rw [if_neg (by omega)]
        refine ⟨by omega, Nat.le_refl _, h3, ⟨x, by simpa using hx, hb⟩, h5, fun j y a b => by omega⟩
    · rw [if_pos rfl]
      rcases ih with ⟨e, ha⟩ | ⟨h1, h2, h3, h4, h5, h6⟩
      · refine .inl ⟨e, fun j y hj hy => ?_⟩
        rcases Nat.lt_or_ge j k with h | h
        · exact ha j y h hy
        · obtain rfl : j = k := by omega
          rw [hx] at hy; cases hy; exact hb
      · refine .inr ⟨h1, by omega, h3, h4, h5, fun j y a b hy => ?_⟩
        rcases Nat.lt_or_ge j k with h | h
        · exact h6 j y a h hy
        · obtain rfl : j = k := by omega
          rw [hx] at hy; cases hy; exact hb
theorem ft_whole (ls : List (List UInt8)) :
    ((ft ls = (0, 0) ∧ ∀ x ∈ ls, blk x = true) ∨
     ((ft ls).1 < (ft ls).2 ∧ (ft ls).2 ≤ ls.length ∧ (∃ x, ls[(ft ls).1]? = some x ∧ blk x = false) ∧ (∃ x, ls[(ft ls).2 - 1]? = some x ∧ blk x = false) ∧
      (∀ j x, j < (ft ls).1 → ls[j]? = some x → blk x = true) ∧ ∀ j x, (ft ls).2 ≤ j → ls[j]? = some x → blk x = true)) := by
  have h := ft_says ls.length ls (Nat.le_refl _)
  rw [List.take_length] at h
  rcases h with ⟨h1, h2⟩ | ⟨h1, h2, h3, h4, h5, h6⟩
  · refine .inl ⟨h1, fun x hx => ?_⟩
    obtain ⟨j, hj, rfl⟩ := List.mem_iff_getElem.1 hx
    exact h2 j _ hj (List.getElem?_eq_getElem hj)
  · exact .inr ⟨h1, h2, h3, h4, h5, fun j x hj hx => h6 j x hj (List.getElem?_eq_some_iff.1 hx).1 hx⟩
theorem edg_len (ls : List (List UInt8)) : (edg ls).length = (ft ls).2 - (ft ls).1 := by
  unfold edg
  rcases ft_whole ls with ⟨h1, _⟩ | ⟨h1, h2, _⟩
  · rw [h1]; simp
  · rw [List.length_take, List.length_drop]; omega
/-- The value of a text without escaped rows. -/
def valL (s : List UInt8) : List UInt8 := Lib.join (edg (cutL (ind (lnB s)) (lnB s))) [10]
def valM (raw : List UInt8) : List UInt8 := valL (turn escL rowL raw)
/-- Does s come again from its raw text? -/
def rawOk (s : List UInt8) : Bool :=
  if s = [] then true else if s.contains 13 || s.getLast? == some 92 || s.getLast? == some 34 then false
  else if blk ((lnB s).headD []) || blk ((lnB s).getLastD []) then false else ind ([] :: lnB s) == 0
theorem join_lines : ∀ (r cur : List UInt8), (∀ c ∈ r, c.toNat ≠ 13) → Lib.join (linesB false cur r) [10] = cur ++ r
  | [], cur, _ => by simp [linesB, Lib.join_one]
  | c :: r, cur, h => by
    have h0 := h c (by simp)
    have hr := fun k => join_lines r k (fun d hd => h d (by simp [hd]))
    rw [linesB, if_neg h0]
    by_cases h10 : c.toNat = 10
    · rw [if_pos h10, if_neg (by simp)]
      obtain rfl : c = 10 := UInt8.toNat_inj.1 h10
      have hp := linesB_pos r false []
      have e := hr []
      cases hh : linesB false [] r with
      | nil => rw [hh] at hp; simp at hp
      | cons y t =>
        rw [hh, Lib.join_cons] at e
        rw [Lib.join_cons]
        show cur ++ Lib.joinTail [10] (y :: t) = _
        unfold Lib.joinTail at e ⊢
        rw [List.map_cons, List.flatten_cons, List.append_assoc, e]; simp
    · rw [if_neg h10, hr]; simp
theorem edg_all (M : List (List UInt8)) (x y : List UInt8) (hx : M[0]? = some x) (hbx : blk x = false) (hy : M[M.length - 1]? = some y) (hby : blk y = false) : edg ([] :: M) = M := by
  have hl : 0 < M.length := (List.getElem?_eq_some_iff.1 hx).1
  rcases ft_whole ([] :: M) with ⟨_, ha⟩ | ⟨h1, h2, ⟨a, ha, hba⟩, ⟨b, hb, hbb⟩, h5, h6⟩
  · have := ha x (by simp [List.mem_of_getElem? hx]); rw [hbx] at this; cases this
  · have e1 : (ft ([] :: M)).1 = 1 := by
      rcases Nat.lt_trichotomy (ft ([] :: M)).1 1 with h | h | h
      · have e : (ft ([] :: M)).1 = 0 := by omega
        rw [e] at ha; simp at ha; subst ha; cases hba
      · exact h
      · have := h5 1 x h (by simpa using hx); rw [hbx] at this; cases this
    have e2 : (ft ([] :: M)).2 = M.length + 1 := by
      rcases Nat.lt_or_ge (ft ([] :: M)).2 (M.length + 1) with h | h
      · have := h6 M.length y (by omega) (by rw [show M.length = (M.length - 1) + 1 by omega, List.getElem?_cons_succ]; exact hy); rw [hby] at this; cases this
      · simp at h2; omega
    unfold edg
    rw [e1, e2]
    simp
/-- What comes again, comes again. -/
theorem raw_back (s : List UInt8) (h : rawOk s = true) : valM (10 :: turn rowL escL s) = s := by
  unfold valM
  rw [turn_miss escL rowL 10 _ (by rw [show escL = 92 :: rowL from rfl, List.isPrefixOf_cons_cons]; rfl), turn_back _ s (Nat.le_refl _)]
  unfold valL
  rw [lnB_end]
  unfold rawOk at h
  by_cases h0 : s = []
  · subst h0
    decide
  · rw [if_neg h0] at h
    split at h
    · cases h
    · rename_i h13
      split at h
      · cases h
      · rename_i hbb
        have hi : ind ([] :: lnB s) = 0 := by simpa using h
        have hno : ∀ c ∈ s, c.toNat ≠ 13 := by
          intro c hc e
          obtain rfl : c = 13 := UInt8.toNat_inj.1 e
          exact h13 (by simp [hc])
        rw [hi, cutL_zero]
        have hp : 1 ≤ (lnB s).length := linesB_pos s false []
        have hbx : blk ((lnB s).headD []) = false := Bool.eq_false_iff.2 fun hh => hbb (by rw [hh]; rfl)
        have hby : blk ((lnB s).getLastD []) = false := Bool.eq_false_iff.2 fun hh => hbb (by rw [hh]; simp)
        rw [edg_all (lnB s) _ _ (by rw [List.getElem?_eq_getElem (by omega)]) (by rw [List.headD_eq_head?_getD, List.head?_eq_getElem?, List.getElem?_eq_getElem (by omega)] at hbx; exact hbx) (by rw [List.getElem?_eq_getElem (by omega)]) (by rw [List.getLastD_eq_getLast?, List.getLast?_eq_getElem?, List.getElem?_eq_getElem (by omega)] at hby; exact hby)]
        have := join_lines s [] hno
        simpa [lnB] using this
end Go.Proofs.YtejniiehfangkaaGreatDoor.Bk
