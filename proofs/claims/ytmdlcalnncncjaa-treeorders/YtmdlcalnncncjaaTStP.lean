/- A stable sort's steps; plain: rows in order, rows turned about, searches between two runs. -/
import Derived.Sort.Lot0
import Derived.Sort.LotA
set_option linter.unusedVariables false
set_option linter.unusedSimpArgs false
namespace Go.Proofs.Ytmdlcalnncncjaa.St
open Go.Sort
variable {α : Type} [Inhabited α]
section
variable (rk : α → Int) (ix : α → Nat)
/-- No later one by rank, and by place where the ranks are one. -/
def le (x y : α) : Prop := rk x < rk y ∨ (rk x = rk y ∧ ix x ≤ ix y)
def Srt (d : Array α) (a b : Nat) : Prop := ∀ i j, a ≤ i → i < j → j < b → le rk ix d[i]! d[j]!
def Old (d : Array α) (a m b : Nat) : Prop := ∀ i j, a ≤ i → i < m → m ≤ j → j < b → ix d[i]! < ix d[j]!
end
variable {rk : α → Int} {ix : α → Nat}
omit [Inhabited α] in
theorem le.trans {x y z : α} (h : le rk ix x y) (k : le rk ix y z) : le rk ix x z := by
  unfold le at *
  omega
omit [Inhabited α] in
theorem le.refl (x : α) : le rk ix x x := .inr ⟨rfl, Nat.le_refl _⟩
omit [Inhabited α] in
theorem le_of_lt {x y : α} (h : rk x < rk y) : le rk ix x y := .inl h
omit [Inhabited α] in
theorem le_of_not {x y : α} (h : ¬ rk y < rk x) (k : ix x < ix y) : le rk ix x y := by unfold le; omega
theorem Srt.le {d : Array α} {a b i j : Nat} (h : Srt rk ix d a b) (h1 : a ≤ i) (h2 : i ≤ j) (h3 : j < b) : le rk ix d[i]! d[j]! := by
  rcases Nat.eq_or_lt_of_le h2 with e | e
  · subst e; exact le.refl _
  · exact h i j h1 e h3
theorem Srt.sub {d : Array α} {a b a' b' : Nat} (h : Srt rk ix d a b) (h1 : a ≤ a') (h2 : b' ≤ b) : Srt rk ix d a' b' := fun i j x y z => h i j (by omega) y (by omega)
theorem Srt.congr {d d' : Array α} {a b : Nat} (h : Srt rk ix d a b) (he : ∀ i, a ≤ i → i < b → d'[i]! = d[i]!) : Srt rk ix d' a b := fun i j x y z => by rw [he i x (by omega), he j (by omega) z]; exact h i j x y z
theorem Srt.one {d : Array α} {a b : Nat} (h : b ≤ a + 1) : Srt rk ix d a b := fun i j x y z => by omega
theorem Srt.glue {d : Array α} {a m b : Nat} (h1 : Srt rk ix d a m) (h2 : Srt rk ix d m b) (h3 : ∀ i j, a ≤ i → i < m → m ≤ j → j < b → St.le rk ix d[i]! d[j]!) : Srt rk ix d a b := fun i j x y z => by
  by_cases e1 : j < m
  · exact h1 i j x y e1
  · by_cases e2 : m ≤ i
    · exact h2 i j e2 y z
    · exact h3 i j x (by omega) (by omega) z
/-- The row d with what stands in [s, m) and in [m, e) exchanged: which place each one comes from. -/
def src (s m e q : Nat) : Nat := if q < s ∨ e ≤ q then q else if q < s + (e - m) then m + (q - s) else s + (q - s - (e - m))
def Rot (d d' : Array α) (s m e : Nat) : Prop := d'.size = d.size ∧ ∀ q, d'[q]! = d[src s m e q]!
theorem src_out {s m e q : Nat} (h : q < s ∨ e ≤ q) : src s m e q = q := by unfold src; rw [if_pos h]
theorem src_l {s m e q : Nat} (h1 : s ≤ q) (h2 : q < s + (e - m)) (hm : s ≤ m) (he : m ≤ e) : src s m e q = m + (q - s) := by unfold src; rw [if_neg (by omega), if_pos h2]
theorem src_r {s m e q : Nat} (h1 : s + (e - m) ≤ q) (h2 : q < e) (hm : s ≤ m) (he : m ≤ e) : src s m e q = q - (e - m) := by unfold src; rw [if_neg (by omega), if_neg (by omega)]; omega
theorem Rot.nil {d : Array α} {s m e : Nat} (h : m = s ∨ m = e) (hm : s ≤ m) (he : m ≤ e) : Rot d d s m e := by
  refine ⟨rfl, fun q => ?_⟩
  by_cases h1 : q < s ∨ e ≤ q
  · rw [src_out h1]
  · by_cases h2 : q < s + (e - m)
    · rw [src_l (by omega) h2 hm he]
      congr 1
      omega
    · rw [src_r (by omega) (by omega) hm he]
      congr 1
      omega
/-- One element shifted on, behind the next one. -/
theorem Rot.up {d d' : Array α} {a e : Nat} (h : Rot d d' a (a + 1) e) (hae : a + 1 ≤ e) (hs : e < d.size) : Rot d (swp d' (e - 1) e) a (a + 1) (e + 1) := by
  refine ⟨by rw [size_swp, h.1], fun q => ?_⟩
  have hs' : d'.size = d.size := h.1
  by_cases e1 : q = e - 1
  · subst e1
    rw [swp_left _ _ _ (by omega) (by omega), h.2 e, src_out (by omega), src_l (by omega) (by omega) (by omega) (by omega)]
    congr 1
    omega
  · by_cases e2 : q = e
    · subst e2
      rw [swp_right _ _ _ (by omega), h.2 (q - 1), src_r (by omega) (by omega) (by omega) (by omega), src_r (by omega) (by omega) (by omega) (by omega)]
      congr 1
      omega
    · rw [swp_other _ _ _ _ e1 e2, h.2 q]
      by_cases o : q < a ∨ e ≤ q
      · rw [src_out o, src_out (by omega)]
      · rw [src_l (by omega) (by omega) (by omega) (by omega), src_l (by omega) (by omega) (by omega) (by omega)]
/-- One element shifted on, ahead of the one ahead. -/
theorem Rot.down {d d' : Array α} {s m : Nat} (h : Rot d d' s m (m + 1)) (hsm : s ≤ m) (h0 : 0 < s) (hs : m < d.size) : Rot d (swp d' s (s - 1)) (s - 1) m (m + 1) := by
  refine ⟨by rw [size_swp, h.1], fun q => ?_⟩
  have hs' : d'.size = d.size := h.1
  by_cases e1 : q = s
  · subst e1
    rw [swp_left _ _ _ (by omega) (by omega), h.2 (q - 1), src_out (by omega), src_r (by omega) (by omega) (by omega) (by omega)]
    congr 1
    omega
  · by_cases e2 : q = s - 1
    · subst e2
      rw [swp_right _ _ _ (by omega), h.2 s, src_l (by omega) (by omega) (by omega) (by omega), src_l (by omega) (by omega) (by omega) (by omega)]
      congr 1
      omega
    · rw [swp_other _ _ _ _ e1 e2, h.2 q]
      by_cases o : q < s ∨ m + 1 ≤ q
      · rw [src_out o, src_out (by omega)]
      · rw [src_r (by omega) (by omega) (by omega) (by omega), src_r (by omega) (by omega) (by omega) (by omega)]
/-- Two stretches exchanged, so far. -/
def Swd (d d' : Array α) (a b n : Nat) : Prop := d'.size = d.size ∧ (∀ t, t < n → d'[a + t]! = d[b + t]! ∧ d'[b + t]! = d[a + t]!) ∧ ∀ q, (q < a ∨ a + n ≤ q) → (q < b ∨ b + n ≤ q) → d'[q]! = d[q]!
theorem Swd.zero (d : Array α) (a b : Nat) : Swd d d a b 0 := ⟨rfl, fun t h => by omega, fun _ _ _ => rfl⟩
theorem Swd.step {d d' : Array α} {a b n N : Nat} (h : Swd d d' a b n) (hn : n < N) (hd : a + N ≤ b) (hs : b + N ≤ d.size) : Swd d (swp d' (a + n) (b + n)) a b (n + 1) := by
  obtain ⟨h1, h2, h3⟩ := h
  refine ⟨by rw [size_swp, h1], fun t ht => ?_, fun q hq hq2 => ?_⟩
  · by_cases e : t = n
    · subst e
      rw [swp_left _ _ _ (by omega) (by omega), swp_right _ _ _ (by omega)]
      exact ⟨h3 _ (by omega) (by omega), h3 _ (by omega) (by omega)⟩
    · rw [swp_other _ _ _ _ (by omega) (by omega), swp_other _ _ _ _ (by omega) (by omega)]
      exact h2 t (by omega)
  · rw [swp_other _ _ _ _ (by omega) (by omega)]
    exact h3 q (by omega) (by omega)
/-- Where the exchange of two neighbours stands: what is still to be exchanged is [m - i, m) and [m, m + j). -/
def Win (d D : Array α) (s m e i j : Nat) : Prop := D.size = d.size ∧ s ≤ m - i ∧ i ≤ m ∧ m + j ≤ e ∧ 0 < i ∧ 0 < j ∧ (∀ q, q < m - i ∨ m + j ≤ q → D[q]! = d[src s m e q]!) ∧ (∀ t, t < j → D[m + t]! = d[src s m e (m - i + t)]!) ∧ (∀ t, t < i → D[m - i + t]! = d[src s m e (m - i + j + t)]!)
theorem Win.start {d : Array α} {s m e : Nat} (h1 : s < m) (h2 : m < e) : Win d d s m e (m - s) (e - m) := by
  refine ⟨rfl, by omega, by omega, by omega, by omega, by omega, fun q hq => ?_, fun t ht => ?_, fun t ht => ?_⟩
  · rw [src_out (by omega)]
  · rw [src_l (by omega) (by omega) (by omega) (by omega)]; congr 1; omega
  · rw [src_r (by omega) (by omega) (by omega) (by omega)]; congr 1; omega
theorem Win.left {d D D' : Array α} {s m e i j : Nat} (h : Win d D s m e i j) (hij : j < i) (hs : Swd D D' (m - i) m j) : Win d D' s m e (i - j) j := by
  obtain ⟨a1, a2, a3, a4, a5, a6, a7, a8, a9⟩ := h
  obtain ⟨b1, b2, b3⟩ := hs
  refine ⟨b1.trans a1, by omega, by omega, by omega, by omega, a6, fun q hq => ?_, fun t ht => ?_, fun t ht => ?_⟩
  · by_cases e1 : m - i ≤ q ∧ q < m - i + j
    · have := (b2 (q - (m - i)) (by omega)).1
      rw [show m - i + (q - (m - i)) = q by omega] at this
      rw [this, a8 _ (by omega)]
      congr 2
      omega
    · rw [b3 q (by omega) (by omega)]
      exact a7 q (by omega)
  · rw [(b2 t ht).2, a9 t (by omega)]
    congr 2
    omega
  · rw [b3 _ (by omega) (by omega), show m - (i - j) + t = m - i + (j + t) by omega, a9 (j + t) (by omega)]
    congr 2
    omega
theorem Win.right {d D D' : Array α} {s m e i j : Nat} (h : Win d D s m e i j) (hij : i < j) (hs : Swd D D' (m - i) (m + j - i) i) : Win d D' s m e i (j - i) := by
  obtain ⟨a1, a2, a3, a4, a5, a6, a7, a8, a9⟩ := h
  obtain ⟨b1, b2, b3⟩ := hs
  refine ⟨b1.trans a1, by omega, by omega, by omega, by omega, by omega, fun q hq => ?_, fun t ht => ?_, fun t ht => ?_⟩
  · by_cases e1 : m + (j - i) ≤ q ∧ q < m + j
    · have := (b2 (q - (m + j - i)) (by omega)).2
      rw [show m + j - i + (q - (m + j - i)) = q by omega] at this
      rw [this, a9 _ (by omega)]
      congr 2
      omega
    · rw [b3 q (by omega) (by omega)]
      exact a7 q (by omega)
  · rw [b3 _ (by omega) (by omega), a8 t (by omega)]
  · rw [(b2 t ht).1, show m + j - i + t = m + (j - i + t) by omega, a8 _ (by omega)]
    congr 2
    omega
theorem Win.done {d D D' : Array α} {s m e i : Nat} (h : Win d D s m e i i) (hs : Swd D D' (m - i) m i) : Rot d D' s m e := by
  obtain ⟨a1, a2, a3, a4, a5, a6, a7, a8, a9⟩ := h
  obtain ⟨b1, b2, b3⟩ := hs
  refine ⟨b1.trans a1, fun q => ?_⟩
  by_cases e1 : q < m - i ∨ m + i ≤ q
  · rw [b3 q (by omega) (by omega)]
    exact a7 q e1
  · by_cases e2 : q < m
    · have := (b2 (q - (m - i)) (by omega)).1
      rw [show m - i + (q - (m - i)) = q by omega] at this
      rw [this, a8 _ (by omega)]
      congr 2
      omega
    · have := (b2 (q - m) (by omega)).2
      rw [show m + (q - m) = q by omega] at this
      rw [this, a9 _ (by omega)]
      congr 2
      omega
/-- What a row of two runs, turned about at [s, m) and [m, e), is: four runs. -/
theorem Rot.runs {d d' : Array α} {a s m e b : Nat} (h : Rot d d' s m e) (has : a ≤ s) (hsm : s ≤ m) (hme : m ≤ e) (heb : e ≤ b) (h1 : Srt rk ix d a m) (h2 : Srt rk ix d m b) (ho : Old ix d a m b) :
    Srt rk ix d' a s ∧ Srt rk ix d' s (s + (e - m)) ∧ Srt rk ix d' (s + (e - m)) e ∧ Srt rk ix d' e b ∧ Old ix d' a s (s + (e - m)) ∧ Old ix d' (s + (e - m)) e b := by
  have g1 : ∀ q, q < s → d'[q]! = d[q]! := fun q hq => by rw [h.2 q, src_out (.inl hq)]
  have g2 : ∀ q, s ≤ q → q < s + (e - m) → d'[q]! = d[m + (q - s)]! := fun q x y => by rw [h.2 q, src_l x y hsm hme]
  have g3 : ∀ q, s + (e - m) ≤ q → q < e → d'[q]! = d[q - (e - m)]! := fun q x y => by rw [h.2 q, src_r x y hsm hme]
  have g4 : ∀ q, e ≤ q → d'[q]! = d[q]! := fun q hq => by rw [h.2 q, src_out (.inr hq)]
  refine ⟨fun i j x y z => ?_, fun i j x y z => ?_, fun i j x y z => ?_, fun i j x y z => ?_, fun i j x y z w => ?_, fun i j x y z w => ?_⟩
  · rw [g1 i (by omega), g1 j z]; exact h1 i j x y (by omega)
  · rw [g2 i x (by omega), g2 j (by omega) z]; exact h2 _ _ (by omega) (by omega) (by omega)
  · rw [g3 i x (by omega), g3 j (by omega) z]; exact h1 _ _ (by omega) (by omega) (by omega)
  · rw [g4 i x, g4 j (by omega)]; exact h2 i j (by omega) y z
  · rw [g1 i y, g2 j z w]; exact ho _ _ x (by omega) (by omega) (by omega)
  · rw [g3 i x y, g4 j z]; exact ho _ _ (by omega) (by omega) (by omega) w
/-- A search between two runs has parted them: all of the first parts is ahead of all of the second ones. -/
theorem Rot.cross {d d' : Array α} {a s m e b : Nat} (h : Rot d d' s m e) (has : a ≤ s) (hsm : s ≤ m) (hme : m ≤ e) (heb : e ≤ b) (h1 : Srt rk ix d a m) (h2 : Srt rk ix d m b)
    (x1 : a < s → e < b → le rk ix d[s - 1]! d[e]!) (x2 : m < e → s < m → le rk ix d[e - 1]! d[s]!) :
    ∀ i j, a ≤ i → i < s + (e - m) → s + (e - m) ≤ j → j < b → le rk ix d'[i]! d'[j]! := by
  intro i j hi hi2 hj hj2
  have e1 : (i < s ∧ src s m e i = i) ∨ (s ≤ i ∧ src s m e i = m + (i - s)) := by
    by_cases q : i < s
    · exact .inl ⟨q, src_out (.inl q)⟩
    · exact .inr ⟨by omega, src_l (by omega) hi2 hsm hme⟩
  have e2 : (j < e ∧ src s m e j = j - (e - m)) ∨ (e ≤ j ∧ src s m e j = j) := by
    by_cases q : j < e
    · exact .inl ⟨q, src_r hj q hsm hme⟩
    · exact .inr ⟨by omega, src_out (.inr (by omega))⟩
  rw [h.2 i, h.2 j]
  rcases e1 with ⟨a1, a2⟩ | ⟨a1, a2⟩ <;> rcases e2 with ⟨b1, b2⟩ | ⟨b1, b2⟩ <;> rw [a2, b2]
  · exact h1.le hi (by omega) (by omega)
  · exact ((h1.le hi (by omega : i ≤ s - 1) (by omega)).trans (x1 (by omega) (by omega))).trans (h2.le (by omega) b1 hj2)
  · exact ((h2.le (by omega) (by omega : m + (i - s) ≤ e - 1) (by omega)).trans (x2 (by omega) (by omega))).trans (h1.le (by omega) (by omega) (by omega))
  · exact h2.le (by omega) (by omega) hj2
/-- What a search between two runs knows: ahead of 'lo' the element of the first run is ahead of its partner in the second one, from 'hi' on it is behind. -/
def Fnd (rk : α → Int) (ix : α → Nat) (d : Array α) (l0 r0 p lo hi : Nat) : Prop := l0 ≤ lo ∧ lo ≤ hi ∧ hi ≤ r0 ∧ (l0 < lo → le rk ix d[lo - 1]! d[p - (lo - 1)]!) ∧ (hi < r0 → le rk ix d[p - hi]! d[hi]!)
theorem Fnd.start {d : Array α} {l0 r0 p : Nat} (h : l0 ≤ r0) : Fnd rk ix d l0 r0 p l0 r0 := ⟨Nat.le_refl _, h, Nat.le_refl _, fun h => by omega, fun h => by omega⟩
theorem Fnd.yes {d : Array α} {l0 r0 p lo hi c : Nat} (h : Fnd rk ix d l0 r0 p lo hi) (h1 : lo ≤ c) (h2 : c < hi) (hc : le rk ix d[c]! d[p - c]!) : Fnd rk ix d l0 r0 p (c + 1) hi := by
  obtain ⟨a1, a2, a3, a4, a5⟩ := h
  exact ⟨by omega, by omega, a3, fun _ => by simpa using hc, a5⟩
theorem Fnd.no {d : Array α} {l0 r0 p lo hi c : Nat} (h : Fnd rk ix d l0 r0 p lo hi) (h1 : lo ≤ c) (h2 : c < hi) (hc : le rk ix d[p - c]! d[c]!) : Fnd rk ix d l0 r0 p lo c := by
  obtain ⟨a1, a2, a3, a4, a5⟩ := h
  exact ⟨by omega, by omega, by omega, a4, fun _ => hc⟩
/-- The same for one element against a run: it is at x; the run's first ones are ahead of it. -/
def Fnd1 (rk : α → Int) (ix : α → Nat) (d : Array α) (x l0 r0 lo hi : Nat) : Prop := l0 ≤ lo ∧ lo ≤ hi ∧ hi ≤ r0 ∧ (l0 < lo → le rk ix d[lo - 1]! d[x]!) ∧ (hi < r0 → le rk ix d[x]! d[hi]!)
theorem Fnd1.start {d : Array α} {x l0 r0 : Nat} (h : l0 ≤ r0) : Fnd1 rk ix d x l0 r0 l0 r0 := ⟨Nat.le_refl _, h, Nat.le_refl _, fun h => by omega, fun h => by omega⟩
theorem Fnd1.yes {d : Array α} {x l0 r0 lo hi c : Nat} (h : Fnd1 rk ix d x l0 r0 lo hi) (h1 : lo ≤ c) (h2 : c < hi) (hc : le rk ix d[c]! d[x]!) : Fnd1 rk ix d x l0 r0 (c + 1) hi := by
  obtain ⟨a1, a2, a3, a4, a5⟩ := h
  exact ⟨by omega, by omega, a3, fun _ => by simpa using hc, a5⟩
theorem Fnd1.no {d : Array α} {x l0 r0 lo hi c : Nat} (h : Fnd1 rk ix d x l0 r0 lo hi) (h1 : lo ≤ c) (h2 : c < hi) (hc : le rk ix d[x]! d[c]!) : Fnd1 rk ix d x l0 r0 lo c := by
  obtain ⟨a1, a2, a3, a4, a5⟩ := h
  exact ⟨by omega, by omega, by omega, a4, fun _ => hc⟩
/-- What a merge leaves. -/
def Mrg (rk : α → Int) (ix : α → Nat) (d d' : Array α) (a b : Nat) : Prop := PermIn a b d d' ∧ Srt rk ix d' a b
theorem Mrg.of_rot {d d' : Array α} {a s m e b : Nat} (h : Rot d d' s m e) (hp : PermIn a b d d') (has : a ≤ s) (hsm : s ≤ m) (hme : m ≤ e) (heb : e ≤ b) (h1 : Srt rk ix d a m) (h2 : Srt rk ix d m b) (ho : Old ix d a m b)
    (x1 : a < s → e < b → le rk ix d[s - 1]! d[e]!) (x2 : m < e → s < m → le rk ix d[e - 1]! d[s]!) (hl : a = s ∨ s = s + (e - m)) (hr : s + (e - m) = e ∨ e = b) : Mrg rk ix d d' a b := by
  obtain ⟨r1, r2, r3, r4, -, -⟩ := h.runs has hsm hme heb h1 h2 ho
  have hc := h.cross has hsm hme heb h1 h2 x1 x2
  refine ⟨hp, Srt.glue (m := s + (e - m)) ?_ ?_ hc⟩
  · rcases hl with q | q
    · rw [q]; exact r2
    · rw [← q]; exact r1
  · rcases hr with q | q
    · rw [q]; exact r4
    · rw [← q]; exact r3
/-- One element put into its place. -/
theorem Mrg.of_ins {d d' : Array α} {a s m e b : Nat} (h : Rot d d' s m e) (hp : PermIn a b d d') (has : a ≤ s) (hsm : s ≤ m) (hme : m ≤ e) (heb : e ≤ b) (h1 : Srt rk ix d a m) (h2 : Srt rk ix d m b) (ho : Old ix d a m b)
    (x1 : a < s → e < b → le rk ix d[s - 1]! d[e]!) (x2 : m < e → s < m → le rk ix d[e - 1]! d[s]!) (y1 : s < m → e < b → le rk ix d[m - 1]! d[e]!) (y2 : a < s → m < e → le rk ix d[s - 1]! d[m]!) : Mrg rk ix d d' a b := by
  obtain ⟨r1, r2, r3, r4, -, -⟩ := h.runs has hsm hme heb h1 h2 ho
  have hc := h.cross has hsm hme heb h1 h2 x1 x2
  refine ⟨hp, Srt.glue (m := s + (e - m)) (Srt.glue (m := s) r1 r2 fun i j i1 i2 j1 j2 => ?_) (Srt.glue (m := e) r3 r4 fun i j i1 i2 j1 j2 => ?_) hc⟩
  · rw [h.2 i, h.2 j, src_out (.inl i2), src_l j1 j2 hsm hme]
    exact ((h1.le i1 (by omega : i ≤ s - 1) (by omega)).trans (y2 (by omega) (by omega))).trans (h2.le (Nat.le_refl _) (by omega) (by omega))
  · rw [h.2 i, h.2 j, src_r i1 i2 hsm hme, src_out (.inr j1)]
    exact ((h1.le (by omega) (by omega : i - (e - m) ≤ m - 1) (by omega)).trans (y1 (by omega) (by omega))).trans (h2.le (by omega) j1 j2)
/-- Both halves merged. -/
theorem Mrg.halves {d d1 d2 d3 : Array α} {a s m e b k : Nat} (h : Rot d d1 s m e) (hk : k = s + (e - m)) (hp : PermIn a b d d1) (has : a ≤ s) (hsm : s ≤ m) (hme : m ≤ e) (heb : e ≤ b) (hb : b ≤ d.size) (h1 : Srt rk ix d a m) (h2 : Srt rk ix d m b)
    (x1 : a < s → e < b → le rk ix d[s - 1]! d[e]!) (x2 : m < e → s < m → le rk ix d[e - 1]! d[s]!) (m1 : Mrg rk ix d1 d2 a k) (m2 : Mrg rk ix d2 d3 k b) : Mrg rk ix d d3 a b := by
  subst hk
  have hc := h.cross has hsm hme heb h1 h2 x1 x2
  have z1 : d1.size = d.size := h.1
  have z2 : d2.size = d1.size := m1.1.1
  have z3 : d3.size = d2.size := m2.1.1
  refine ⟨permIn_trans _ _ _ a b hp (permIn_trans _ _ _ a b (permIn_mono _ _ a (s + (e - m)) a b (Nat.le_refl _) (by omega) (by omega) m1.1) (permIn_mono _ _ (s + (e - m)) b a b (by omega) (Nat.le_refl _) (by omega) m2.1)), ?_⟩
  have s1 : Srt rk ix d3 a (s + (e - m)) := m1.2.congr fun i _ y => m2.1.2.1 i (.inl y)
  refine Srt.glue (m := s + (e - m)) s1 m2.2 ?_
  have c1 : ∀ i, a ≤ i → i < s + (e - m) → ∀ j, s + (e - m) ≤ j → j < b → le rk ix d3[i]! d1[j]! := fun i x y j z w => by
    rw [m2.1.2.1 i (.inl y)]
    exact permIn_all d1 d2 a (s + (e - m)) (fun v => le rk ix v d1[j]!) (by omega) m1.1 (fun q q1 q2 => hc q j q1 q2 z w) i x y
  intro i j x y z w
  refine permIn_all d2 d3 (s + (e - m)) b (fun v => le rk ix d3[i]! v) (by omega) m2.1 (fun q q1 q2 => ?_) j z w
  rw [m1.1.2.1 q (.inr q1)]
  exact c1 i x y q q1 q2
end Go.Proofs.Ytmdlcalnncncjaa.St
