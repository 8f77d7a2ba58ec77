/- A stable sort of blocks: what is sorted when; plain. -/
import Derived.Test.YtmdlcalnncncjaaTStP
set_option linter.unusedVariables false
set_option linter.unusedSimpArgs false
namespace Go.Proofs.Ytmdlcalnncncjaa.St
open Go.Sort
variable {α : Type} [Inhabited α]
/-- All ahead of x is older than what stands from x on. -/
def OldAt (ix : α → Nat) (d : Array α) (N x : Nat) : Prop := ∀ i j, i < x → x ≤ j → j < N → ix d[i]! < ix d[j]!
variable {rk : α → Int} {ix : α → Nat}
theorem OldAt.perm {d d' : Array α} {N x a b : Nat} (h : OldAt ix d N x) (hp : PermIn a b d d') (hN : N = d.size) (hb : b ≤ N) (hx : x ≤ a ∨ b ≤ x) : OldAt ix d' N x := by
  intro i j hi hj hjN
  rcases hx with hx | hx
  · rw [hp.2.1 i (.inl (by omega))]
    by_cases e : a ≤ j ∧ j < b
    · exact permIn_all d d' a b (fun v => ix d[i]! < ix v) (by omega) hp (fun q q1 q2 => h i q hi (by omega) (by omega)) j e.1 e.2
    · rw [hp.2.1 j (by omega)]
      exact h i j hi hj hjN
  · rw [hp.2.1 j (.inr (by omega))]
    by_cases e : a ≤ i ∧ i < b
    · exact permIn_all d d' a b (fun v => ix v < ix d[j]!) (by omega) hp (fun q q1 q2 => h q j (by omega) hj hjN) i e.1 e.2
    · rw [hp.2.1 i (by omega)]
      exact h i j hi hj hjN
theorem OldAt.old {d : Array α} {N a m b : Nat} (h : OldAt ix d N m) (hb : b ≤ N) : Old ix d a m b := fun i j _ y z w => h i j y z (by omega)
theorem Srt.perm {d d' : Array α} {lo hi a b : Nat} (h : Srt rk ix d lo hi) (hp : PermIn a b d d') (hx : hi ≤ a ∨ b ≤ lo) : Srt rk ix d' lo hi := h.congr fun i x y => hp.2.1 i (by omega)
theorem mulmono {s t u : Nat} (h : t ≤ u) : s * t ≤ s * u := Nat.mul_le_mul_left s h
/-- Blocks of s, each sorted; each older than the next. -/
structure Blk (rk : α → Int) (ix : α → Nat) (d : Array α) (N s : Nat) : Prop where
  srt : ∀ t, Srt rk ix d (s * t) (min (s * (t + 1)) N)
  old : ∀ t, OldAt ix d N (s * t)
/-- The first k blocks are sorted, the others as they were. -/
structure Fst (rk : α → Int) (ix : α → Nat) (d0 d : Array α) (N s k : Nat) : Prop where
  n : N = d.size
  p : PermIn 0 N d0 d
  srt : ∀ t, t < k → Srt rk ix d (s * t) (s * (t + 1))
  e : ∀ q, s * k ≤ q → d[q]! = d0[q]!
  old : ∀ t, OldAt ix d N (s * t)
theorem Fst.start {d0 : Array α} {N s : Nat} (hn : N = d0.size) (hu : ∀ i j, i < j → j < N → ix d0[i]! < ix d0[j]!) : Fst rk ix d0 d0 N s 0 := ⟨hn, permIn_refl _ _ _, fun t h => by omega, fun _ _ => rfl, fun t i j x y z => hu i j (by omega) z⟩
theorem Fst.step {d0 d d' : Array α} {N s k a b : Nat} (h : Fst rk ix d0 d N s k) (ha : a = s * k) (hb : b = a + s) (hbN : b ≤ N) (hm : Mrg rk ix d d' a b) : Fst rk ix d0 d' N s (k + 1) := by
  have e1 : s * (k + 1) = b := by rw [Nat.mul_succ]; omega
  have hN := h.n
  refine ⟨h.n.trans hm.1.1.symm, permIn_trans _ _ _ _ _ h.p (permIn_mono _ _ _ _ _ _ (Nat.zero_le _) hbN (by omega) hm.1), fun t ht => ?_, fun q hq => ?_, fun t => ?_⟩
  · by_cases e : t < k
    · exact (h.srt t e).perm hm.1 (.inl (by have := mulmono (s := s) (show t + 1 ≤ k from e); omega))
    · obtain rfl : t = k := by omega
      rw [e1, ← ha]
      exact hm.2
  · rw [hm.1.2.1 q (.inr (by omega))]
    exact h.e q (by omega)
  · refine (h.old t).perm hm.1 h.n hbN ?_
    by_cases e : t ≤ k
    · exact .inl (by have := mulmono (s := s) e; omega)
    · exact .inr (by have := mulmono (s := s) (show k + 1 ≤ t by omega); omega)
theorem Fst.last {d0 d d' : Array α} {N s k a : Nat} (h : Fst rk ix d0 d N s k) (ha : a = s * k) (haN : a ≤ N) (hb : N < a + s) (hm : Mrg rk ix d d' a N) : Blk rk ix d' N s ∧ PermIn 0 N d0 d' := by
  have e1 : s * (k + 1) = a + s := by rw [Nat.mul_succ]; omega
  have hN := h.n
  refine ⟨⟨fun t => ?_, fun t => ?_⟩, permIn_trans _ _ _ _ _ h.p (permIn_mono _ _ _ _ _ _ (Nat.zero_le _) (Nat.le_refl _) (by omega) hm.1)⟩
  · by_cases e : t < k
    · have h8 := mulmono (s := s) (show t + 1 ≤ k from e)
      rw [Nat.min_eq_left (by omega)]
      exact (h.srt t e).perm hm.1 (.inl (by omega))
    · by_cases e2 : t = k
      · subst e2
        rw [Nat.min_eq_right (by omega), ← ha]
        exact hm.2
      · have h8 := mulmono (s := s) (show k + 1 ≤ t by omega)
        exact fun i j x y z => by omega
  · refine (h.old t).perm hm.1 h.n (Nat.le_refl _) ?_
    by_cases e : t ≤ k
    · exact .inl (by have := mulmono (s := s) e; omega)
    · exact .inr (by have := mulmono (s := s) (show k + 1 ≤ t by omega); omega)
/-- The first k pairs of blocks are merged. -/
structure Md (rk : α → Int) (ix : α → Nat) (d0 d : Array α) (N s k : Nat) : Prop where
  n : N = d.size
  p : PermIn 0 N d0 d
  s1 : ∀ t, t < k → Srt rk ix d (s * (2 * t)) (s * (2 * t + 2))
  s2 : ∀ t, 2 * k ≤ t → Srt rk ix d (s * t) (min (s * (t + 1)) N)
  o1 : ∀ t, 2 * k ≤ t → OldAt ix d N (s * t)
  o2 : ∀ t, OldAt ix d N (s * (2 * t))
theorem Md.start {d0 d : Array α} {N s : Nat} (h : Blk rk ix d N s) (hn : N = d.size) (hp : PermIn 0 N d0 d) : Md rk ix d0 d N s 0 := ⟨hn, hp, fun t h => by omega, fun t _ => h.srt t, fun t _ => h.old t, fun t => h.old _⟩
theorem Md.pre {d0 d : Array α} {N s k a : Nat} (h : Md rk ix d0 d N s k) (ha : a = s * (2 * k)) (b : Nat) (hb : b = min (a + 2 * s) N) (hm : a + s ≤ N) : Srt rk ix d a (a + s) ∧ Srt rk ix d (a + s) b ∧ Old ix d a (a + s) b := by
  have e1 : s * (2 * k + 1) = a + s := by rw [Nat.mul_succ]; omega
  have e2 : s * (2 * k + 1 + 1) = a + 2 * s := by rw [Nat.mul_succ]; omega
  have g1 := h.s2 (2 * k) (Nat.le_refl _)
  have g2 := h.s2 (2 * k + 1) (by omega)
  have g3 := h.o1 (2 * k + 1) (by omega)
  rw [e1, ← ha, Nat.min_eq_left hm] at g1
  rw [e1, e2, ← hb] at g2
  rw [e1] at g3
  exact ⟨g1, g2, g3.old (by omega)⟩
theorem Md.step {d0 d d' : Array α} {N s k a b : Nat} (h : Md rk ix d0 d N s k) (ha : a = s * (2 * k)) (hb : b = a + 2 * s) (hbN : b ≤ N) (hm : Mrg rk ix d d' a b) : Md rk ix d0 d' N s (k + 1) := by
  have e2 : s * (2 * k + 2) = b := by rw [Nat.mul_succ, Nat.mul_succ]; omega
  have hN := h.n
  refine ⟨h.n.trans hm.1.1.symm, permIn_trans _ _ _ _ _ h.p (permIn_mono _ _ _ _ _ _ (Nat.zero_le _) hbN (by omega) hm.1), fun t ht => ?_, fun t ht => ?_, fun t ht => ?_, fun t => ?_⟩
  · by_cases e : t < k
    · exact (h.s1 t e).perm hm.1 (.inl (by have := mulmono (s := s) (show 2 * t + 2 ≤ 2 * k by omega); omega))
    · obtain rfl : t = k := by omega
      rw [e2, ← ha]
      exact hm.2
  · exact (h.s2 t (by omega)).perm hm.1 (.inr (by have := mulmono (s := s) (show 2 * k + 2 ≤ t by omega); omega))
  · exact (h.o1 t (by omega)).perm hm.1 h.n hbN (.inr (by have := mulmono (s := s) (show 2 * k + 2 ≤ t by omega); omega))
  · refine (h.o2 t).perm hm.1 h.n hbN ?_
    by_cases e : t ≤ k
    · exact .inl (by have := mulmono (s := s) (show 2 * t ≤ 2 * k by omega); omega)
    · exact .inr (by have := mulmono (s := s) (show 2 * k + 2 ≤ 2 * t by omega); omega)
theorem Md.last {d0 d d' : Array α} {N s k a : Nat} (h : Md rk ix d0 d N s k) (ha : a = s * (2 * k)) (haN : a ≤ N) (hb : N < a + 2 * s) (hm : Mrg rk ix d d' a N) : Blk rk ix d' N (2 * s) ∧ PermIn 0 N d0 d' ∧ N = d'.size := by
  have e2 : s * (2 * k + 2) = a + 2 * s := by rw [Nat.mul_succ, Nat.mul_succ]; omega
  have e3 : ∀ t, 2 * s * t = s * (2 * t) := fun t => by rw [Nat.mul_comm 2 s, Nat.mul_assoc]
  have hN := h.n
  refine ⟨⟨fun t => ?_, fun t => ?_⟩, permIn_trans _ _ _ _ _ h.p (permIn_mono _ _ _ _ _ _ (Nat.zero_le _) (Nat.le_refl _) (by omega) hm.1), h.n.trans hm.1.1.symm⟩
  · rw [e3, e3, show 2 * (t + 1) = 2 * t + 2 by omega]
    by_cases e : t < k
    · have h8 := mulmono (s := s) (show 2 * t + 2 ≤ 2 * k by omega)
      rw [Nat.min_eq_left (by omega)]
      exact (h.s1 t e).perm hm.1 (.inl (by omega))
    · by_cases e4 : t = k
      · subst e4
        rw [Nat.min_eq_right (by omega), ← ha]
        exact hm.2
      · have h8 := mulmono (s := s) (show 2 * k + 2 ≤ 2 * t by omega)
        exact fun i j x y z => by omega
  · rw [e3]
    refine (h.o2 t).perm hm.1 h.n (Nat.le_refl _) ?_
    by_cases e : t ≤ k
    · exact .inl (by have := mulmono (s := s) (show 2 * t ≤ 2 * k by omega); omega)
    · exact .inr (by have := mulmono (s := s) (show 2 * k + 2 ≤ 2 * t by omega); omega)
theorem Md.none {d0 d : Array α} {N s k a : Nat} (h : Md rk ix d0 d N s k) (ha : a = s * (2 * k)) (haN : a ≤ N) (hm : N ≤ a + s) : Mrg rk ix d d a N := by
  have e1 : s * (2 * k + 1) = a + s := by rw [Nat.mul_succ]; omega
  have g1 := h.s2 (2 * k) (Nat.le_refl _)
  rw [e1, ← ha, Nat.min_eq_right hm] at g1
  exact ⟨permIn_refl _ _ _, g1⟩
theorem Blk.done {d : Array α} {N s : Nat} (h : Blk rk ix d N s) (hs : N ≤ s) : Srt rk ix d 0 N := by
  have := h.srt 0
  rw [Nat.mul_zero, Nat.zero_add, Nat.mul_one, Nat.min_eq_right hs] at this
  exact this
end Go.Proofs.Ytmdlcalnncncjaa.St
