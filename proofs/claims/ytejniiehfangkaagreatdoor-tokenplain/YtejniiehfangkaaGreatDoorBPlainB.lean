/- Plain facts on values of several lines: how long they are, what more blanks do, how they begin and end. No program in it. -/
import Derived.Test.YtejniiehfangkaaGreatDoorBPlain
set_option linter.unusedVariables false
set_option linter.unusedSimpArgs false
namespace Go.Proofs.YtejniiehfangkaaGreatDoor.Bk
theorem lens_cons (x : List UInt8) (r : List (List UInt8)) : Lib.lens (x :: r) = x.length + Lib.lens r := by simp [Lib.lens]
theorem lens_drop_le : ∀ (k : Nat) (xs : List (List UInt8)), Lib.lens (xs.drop k) ≤ Lib.lens xs
  | 0, xs => by simp
  | k + 1, [] => by simp
  | k + 1, x :: r => by rw [List.drop_succ_cons, lens_cons]; have := lens_drop_le k r; omega
theorem lens_map_drop (d : Nat) : ∀ (xs : List (List UInt8)), Lib.lens (xs.map (List.drop d)) ≤ Lib.lens xs
  | [] => by simp [Lib.lens]
  | x :: r => by rw [List.map_cons, lens_cons, lens_cons, List.length_drop]; have := lens_map_drop d r; omega
theorem cut_lens (d : Nat) (ls : List (List UInt8)) : Lib.lens (cutL d ls) ≤ Lib.lens ls := by
  cases ls with
  | nil => exact Nat.le_refl _
  | cons x r => rw [cutL, lens_cons, lens_cons]; have := lens_map_drop d r; omega
theorem edg_lens (ls : List (List UInt8)) : Lib.lens (edg ls) ≤ Lib.lens ls ∧ (edg ls).length ≤ ls.length := by
  unfold edg
  refine ⟨Nat.le_trans (Lib.lens_take_le _ _) (lens_drop_le _ _), ?_⟩
  rw [List.length_take, List.length_drop]; omega
theorem join_len (xs : List (List UInt8)) : (Lib.join xs [10]).length ≤ Lib.lens xs + xs.length := by
  cases xs with
  | nil => rw [Lib.join_nil]; exact Nat.zero_le _
  | cons x r => rw [Lib.join_length, List.length_cons]; simp only [List.length_cons, List.length_nil]; omega
theorem val_len (s : List UInt8) : (valL s).length ≤ s.length + 1 := by
  unfold valL
  have h1 := join_len (edg (cutL (ind (lnB s)) (lnB s)))
  have h2 := edg_lens (cutL (ind (lnB s)) (lnB s))
  have h3 := cut_lens (ind (lnB s)) (lnB s)
  have h4 := cutL_len (ind (lnB s)) (lnB s)
  have h5 := linesB_lens s false []
  have h6 : lnB s = linesB false [] s := rfl
  rw [List.length_nil] at h5
  rw [← h6] at h5
  omega
/-- So many bytes more behind each line end. -/
def insL (b : List UInt8) : List UInt8 → List UInt8
  | [] => []
  | c :: r => c :: (if c.toNat = 10 ∨ (c.toNat = 13 ∧ r.head? ≠ some 10) then b ++ insL b r else insL b r)
theorem ins_keep (b : List UInt8) (c : UInt8) (r : List UInt8) (h1 : c.toNat ≠ 10) (h2 : c.toNat ≠ 13) : insL b (c :: r) = c :: insL b r := by
  rw [insL, if_neg (by omega)]
theorem esc_no (c : UInt8) (l : List UInt8) (h : c ≠ 92) : escL.isPrefixOf (c :: l) = false := by
  rw [show escL = 92 :: rowL from rfl, List.isPrefixOf_cons_cons]
  have : ((92 : UInt8) == c) = false := by rw [beq_eq_false_iff_ne]; exact fun e => h e.symm
  rw [this]; rfl
theorem turn_blanks : ∀ (b y : List UInt8), (∀ c ∈ b, bl c = true) → turn escL rowL (b ++ y) = b ++ turn escL rowL y
  | [], _, _ => rfl
  | c :: b, y, h => by
    have hc : c ≠ 92 := by intro e; subst e; have := h 92 (by simp); cases this
    rw [List.cons_append, turn_miss _ _ _ _ (esc_no c _ hc), turn_blanks b y (fun d hd => h d (by simp [hd]))]; rfl
theorem no_end (c : UInt8) (P : Prop) (h1 : c.toNat ≠ 10) (h2 : c.toNat ≠ 13) : ¬ (c.toNat = 10 ∨ (c.toNat = 13 ∧ P)) := by
  rintro (h | ⟨h, _⟩)
  · exact h1 h
  · exact h2 h
theorem ins_head (b r t : List UInt8) (h : insL b r = 34 :: t) : ∃ r1, r = 34 :: r1 ∧ insL b r1 = t := by
  cases r with
  | nil => simp [insL] at h
  | cons c r1 =>
    rw [insL] at h
    simp only [List.cons.injEq] at h
    obtain ⟨rfl, h⟩ := h
    exact ⟨r1, rfl, by rw [if_neg (no_end 34 _ (by decide) (by decide))] at h; exact h⟩
theorem turn_top (r : List UInt8) : (turn escL rowL r).head? = some 10 ↔ r.head? = some 10 := by
  cases r with
  | nil => simp [turn_nil]
  | cons c r1 =>
    cases hp : escL.isPrefixOf (c :: r1)
    · rw [turn_miss _ _ _ _ hp]; simp
    · obtain ⟨r', e, _⟩ := (esc_row _).1 hp
      rw [turn_hit _ _ _ (by decide) hp, e]
      constructor
      · intro h; simp [rowL] at h
      · intro h; simp at h
theorem turn_ins (b : List UInt8) (hb : ∀ c ∈ b, bl c = true) : ∀ (n : Nat) (x : List UInt8), x.length ≤ n → turn escL rowL (insL b x) = insL b (turn escL rowL x)
  | _, [], _ => rfl
  | 0, c :: r, h => by simp at h
  | n + 1, c :: r, h => by
    rw [List.length_cons] at h
    cases hp : escL.isPrefixOf (c :: r)
    · have hq : escL.isPrefixOf (insL b (c :: r)) = false := by
        cases hq : escL.isPrefixOf (insL b (c :: r))
        · rfl
        · obtain ⟨t, e, ht⟩ := (esc_row _).1 hq
          rw [insL] at e
          simp only [List.cons.injEq] at e
          obtain ⟨rfl, e⟩ := e
          rw [if_neg (no_end 92 _ (by decide) (by decide))] at e
          obtain ⟨t1, rfl⟩ := (row_row _).1 ht
          obtain ⟨r1, rfl, e1⟩ := ins_head b r _ e
          obtain ⟨r2, rfl, e2⟩ := ins_head b r1 _ e1
          obtain ⟨r3, rfl, _⟩ := ins_head b r2 _ e2
          simp [escL] at hp
      rw [turn_miss _ _ _ _ hp, insL] at *
      rw [turn_miss _ _ _ _ hq, insL]
      by_cases hc : c.toNat = 10 ∨ (c.toNat = 13 ∧ r.head? ≠ some 10)
      · have hc' : c.toNat = 10 ∨ (c.toNat = 13 ∧ (turn escL rowL r).head? ≠ some 10) := by rw [Ne, turn_top]; exact hc
        rw [if_pos hc, if_pos hc', turn_blanks b _ hb, turn_ins b hb n r (by omega)]
      · have hc' : ¬ (c.toNat = 10 ∨ (c.toNat = 13 ∧ (turn escL rowL r).head? ≠ some 10)) := by rw [Ne, turn_top]; exact hc
        rw [if_neg hc, if_neg hc', turn_ins b hb n r (by omega)]
    · obtain ⟨r', e, hr'⟩ := (esc_row _).1 hp
      obtain ⟨r2, rfl⟩ := (row_row _).1 hr'
      rw [e] at hp ⊢
      have hl : r2.length ≤ n := by have := congrArg List.length e; simp at this; omega
      have e1 : insL b (92 :: 34 :: 34 :: 34 :: r2) = 92 :: 34 :: 34 :: 34 :: insL b r2 := by
        rw [ins_keep b 92 _ (by decide) (by decide), ins_keep b 34 _ (by decide) (by decide), ins_keep b 34 _ (by decide) (by decide), ins_keep b 34 _ (by decide) (by decide)]
      have e2 : ∀ y, turn escL rowL (92 :: 34 :: 34 :: 34 :: y) = 34 :: 34 :: 34 :: turn escL rowL y := fun y => by
        rw [turn_hit _ _ _ (by decide) (by simp [escL])]; rfl
      rw [e1, e2, e2, turn_ins b hb n r2 hl, ins_keep b 34 _ (by decide) (by decide), ins_keep b 34 _ (by decide) (by decide), ins_keep b 34 _ (by decide) (by decide)]
theorem linesB_true (cur r : List UInt8) (h : r.head? ≠ some 10) : linesB true cur r = linesB false cur r := by
  cases r with
  | nil => rfl
  | cons c r1 =>
    rw [linesB, linesB]
    have : c.toNat ≠ 10 := fun e => h (by obtain rfl : c = 10 := UInt8.toNat_inj.1 e; rfl)
    rw [if_neg this, if_neg this]
theorem ins_top (b r : List UInt8) : (insL b r).head? = r.head? := by cases r <;> simp [insL]
theorem bl_end (c : UInt8) (h : bl c = true) : c.toNat ≠ 13 ∧ c.toNat ≠ 10 := by
  unfold bl at h
  simp at h
  rcases h with rfl | rfl <;> decide
theorem ins_lines (b : List UInt8) (hb : ∀ c ∈ b, bl c = true) : ∀ (n : Nat) (x cur : List UInt8), x.length ≤ n → linesB false (b ++ cur) (insL b x) = (linesB false cur x).map (b ++ ·)
  | _, [], cur, _ => by simp [insL, linesB]
  | 0, c :: r, _, h => by simp at h
  | n + 1, c :: r, cur, h => by
    have hno : NoEnd b := fun c hc => bl_end c (hb c hc)
    rw [List.length_cons] at h
    have ih := fun k => ins_lines b hb n r k (by omega)
    have ih0 : linesB false [] (b ++ insL b r) = (linesB false [] r).map (b ++ ·) := by
      rw [linesB_plain b [] _ hno, List.nil_append]; have := ih []; rwa [List.append_nil] at this
    rw [insL, linesB, linesB]
    by_cases h13 : c.toNat = 13
    · rw [if_pos h13, if_pos h13, List.map_cons]
      congr 1
      by_cases ht : r.head? = some 10
      · rw [if_neg (show ¬ (c.toNat = 10 ∨ (c.toNat = 13 ∧ r.head? ≠ some 10)) from fun hh => hh.elim (fun h1 => by omega) (fun h2 => h2.2 ht))]
        cases r with
        | nil => simp at ht
        | cons d r1 =>
          obtain rfl : d = 10 := by simpa using ht
          rw [List.length_cons] at h
          have hi : linesB false [] (b ++ insL b r1) = (linesB false [] r1).map (b ++ ·) := by
            rw [linesB_plain b [] _ hno, List.nil_append]; have := ins_lines b hb n r1 [] (by omega); rwa [List.append_nil] at this
          rw [insL, if_pos (.inl rfl)]
          show linesB false [] (b ++ insL b r1) = _
          rw [hi]; rfl
      · rw [if_pos (.inr ⟨h13, ht⟩), linesB_true [] r ht]
        cases b with
        | nil =>
          rw [List.nil_append, linesB_true _ _ (by rw [ins_top]; exact ht)]
          exact ih0
        | cons d b1 =>
          rw [linesB_true _ _ (by intro e; have := hb d (by simp); simp at e; subst e; cases this)]
          exact ih0
    · rw [if_neg h13, if_neg h13]
      by_cases h10 : c.toNat = 10
      · rw [if_pos h10, if_pos h10, if_pos (show c.toNat = 10 ∨ (c.toNat = 13 ∧ r.head? ≠ some 10) from .inl h10), if_neg (show ¬ (false = true) by simp), if_neg (show ¬ (false = true) by simp), List.map_cons, ih0]
      · rw [if_neg h10, if_neg h10, if_neg (by omega), List.append_assoc, ih]
theorem edg_blank (ls : List (List UInt8)) (h : ∀ l ∈ ls, blk l = true) : edg ls = [] := by
  have e : ft ls = (0, 0) := by
    rcases ft_whole ls with ⟨e, _⟩ | ⟨_, _, ⟨x, hx, hb⟩, _⟩
    · exact e
    · rw [h x (List.mem_of_getElem? hx)] at hb; cases hb
  unfold edg; rw [e]; simp
/-- So many blanks more ahead of each line change nothing. -/
theorem val_more (b raw : List UInt8) (hb : ∀ c ∈ b, bl c = true) : valM (10 :: (b ++ insL b raw)) = valM (10 :: raw) := by
  have hno : NoEnd b := fun c hc => bl_end c (hb c hc)
  unfold valM
  rw [turn_miss _ _ _ _ (esc_no 10 _ (by decide)), turn_miss _ _ _ _ (esc_no 10 _ (by decide)), turn_blanks b _ hb, turn_ins b hb _ raw (Nat.le_refl _)]
  generalize turn escL rowL raw = x
  unfold valL
  rw [lnB_end, lnB_end]
  have e : lnB (b ++ insL b x) = (lnB x).map (b ++ ·) := by
    unfold lnB
    rw [linesB_plain b [] _ hno, List.nil_append]
    have := ins_lines b hb x.length x [] (Nat.le_refl _)
    rwa [List.append_nil] at this
  rw [e]
  generalize lnB x = M
  have hi := indA_more b hb M none
  rw [Option.map_none] at hi
  congr 1
  unfold ind
  simp only [List.tail_cons]
  rw [hi]
  cases hm : indA none M with
  | none =>
    have ha := indA_none M hm
    rw [Option.map_none, Option.getD_none, cutL_zero, cutL_zero, edg_blank _ (fun l hl => ?_), edg_blank _ (fun l hl => ?_)]
    · rcases List.mem_cons.1 hl with rfl | hl
      · rfl
      · exact ha l hl
    · rcases List.mem_cons.1 hl with rfl | hl
      · rfl
      · obtain ⟨y, hy, rfl⟩ := List.mem_map.1 hl
        rw [blk_app b y hb]; exact ha y hy
  | some k =>
    rw [Option.map_some, Option.getD_some, Option.getD_some, cutL, cutL, List.map_map]
    congr 2
    apply List.map_congr_left
    intro y _
    simp
theorem join_head (x : List UInt8) (r : List (List UInt8)) (c : UInt8) (h : x.head? = some c) : (Lib.join (x :: r) [10]).head? = some c := by
  rw [Lib.join_cons]
  cases x with
  | nil => simp at h
  | cons d t => simpa using h
theorem join_last : ∀ (xs : List (List UInt8)) (l : List UInt8) (c : UInt8), xs.getLast? = some l → l.getLast? = some c → (Lib.join xs [10]).getLast? = some c
  | [], _, _, h, _ => by simp at h
  | [x], l, c, h, hc => by rw [Lib.join_one]; simp at h; subst h; exact hc
  | x :: y :: r, l, c, h, hc => by
    have ih := join_last (y :: r) l c (by rw [List.getLast?_cons_cons] at h; exact h) hc
    rw [Lib.join_cons] at ih ⊢
    show (x ++ Lib.joinTail [10] (y :: r)).getLast? = some c
    have e : Lib.joinTail [10] (y :: r) = 10 :: (y ++ Lib.joinTail [10] r) := by unfold Lib.joinTail; simp
    rw [e, List.getLast?_append, List.getLast?_cons, ih]
    rfl
theorem cutL_noend (d : Nat) (ls : List (List UInt8)) (h : ∀ l ∈ ls, NoEnd l) : ∀ l ∈ cutL d ls, NoEnd l := by
  cases ls with
  | nil => intro l hl; simp [cutL] at hl
  | cons x r =>
    intro l hl
    rw [cutL] at hl
    rcases List.mem_cons.1 hl with rfl | hl
    · exact h _ (by simp)
    · obtain ⟨y, hy, rfl⟩ := List.mem_map.1 hl
      intro c hc
      exact h y (by simp [hy]) c (List.mem_of_mem_drop hc)
theorem blk_some (l : List UInt8) (h : blk l = false) : ∃ a b, l.head? = some a ∧ l.getLast? = some b ∧ a ∈ l ∧ b ∈ l := by
  cases l with
  | nil => cases h
  | cons c r => exact ⟨c, (c :: r).getLast (by simp), rfl, List.getLast?_eq_some_getLast (by simp), by simp, List.getLast_mem _⟩
/-- A value neither begins nor ends with a line end. -/
theorem val_ends (raw : List UInt8) (h : valM raw ≠ []) : ∃ a b, (valM raw).head? = some a ∧ (valM raw).getLast? = some b ∧ a.toNat ≠ 10 ∧ b.toNat ≠ 10 ∧ b.toNat ≠ 13 := by
  unfold valM valL at *
  generalize turn escL rowL raw = x at *
  have hne := cutL_noend (ind (lnB x)) (lnB x) (linesB_noend x false [] (fun c hc => by simp at hc))
  generalize cutL (ind (lnB x)) (lnB x) = ls at *
  rcases ft_whole ls with ⟨e, _⟩ | ⟨h1, h2, ⟨x1, hx1, hb1⟩, ⟨x2, hx2, hb2⟩, _, _⟩
  · exfalso; apply h; unfold edg; rw [e]; rfl
  · obtain ⟨a, _, ha, _, hma, _⟩ := blk_some x1 hb1
    obtain ⟨_, b, _, hb, _, hmb⟩ := blk_some x2 hb2
    have n1 := hne x1 (List.mem_of_getElem? hx1) a hma
    have n2 := hne x2 (List.mem_of_getElem? hx2) b hmb
    have e0 : (edg ls)[0]? = some x1 := by
      unfold edg; rw [List.getElem?_take, if_pos (by omega), List.getElem?_drop]; exact hx1
    have hl := edg_len ls
    refine ⟨a, b, ?_, ?_, n1.2, n2.2, n2.1⟩
    · cases hh : edg ls with
      | nil => rw [hh] at e0; simp at e0
      | cons y r => rw [hh] at e0; simp at e0; subst e0; exact join_head _ r a ha
    · refine join_last _ x2 b ?_ hb
      rw [List.getLast?_eq_getElem?, hl]
      unfold edg
      rw [List.getElem?_take, if_pos (by omega), List.getElem?_drop, show (ft ls).1 + ((ft ls).2 - (ft ls).1 - 1) = (ft ls).2 - 1 by omega]
      exact hx2
end Go.Proofs.YtejniiehfangkaaGreatDoor.Bk
