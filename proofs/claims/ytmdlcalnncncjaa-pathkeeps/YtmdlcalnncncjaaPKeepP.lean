/- What is put is found, and what is elsewhere stays; plain. -/
import Derived.Test.YtmdlcalnncncjaaPPutQ
set_option linter.unusedVariables false
set_option linter.unusedSimpArgs false
namespace Go.Proofs.Ytmdlcalnncncjaa
open Go.RowKit
theorem subI_setL {k n : Int} {t : ByteArray} {l : List Va} {ks : List ByteArray} {f : List Va} {s : St} {i : Nat} {z : Va} : subI (.mk k n t (l.set i z) ks f) s = subI (.mk k n t l ks f) s := by simp only [subI, List.length_set]
theorem subI_setF {k n : Int} {t : ByteArray} {l : List Va} {ks : List ByteArray} {f : List Va} {s : St} {i : Nat} {z : Va} : subI (.mk k n t l ks (f.set i z)) s = subI (.mk k n t l ks f) s := rfl
/-- What is put is found. -/
theorem go_put (x : Va) : ∀ (p : List St) (a : Va), (goV a p).isSome = true → goV (putV a p x) p = some x
  | [], a, _ => by cases a; rfl
  | s :: p, .mk k n t l ks f, h => by
    obtain ⟨b, hb⟩ := Option.isSome_iff_exists.1 h
    obtain ⟨i, y, hi, hL, hF, hg⟩ := goV_cons hb
    have ih := go_put x p y (by rw [hg]; rfl)
    cases hs : s.i
    · have hy := hF hs
      rw [putV_F hi hs hy]
      have hlt := (List.getElem?_eq_some_iff.1 hy).1
      simp only [goV, subV]
      rw [subI_setF, hi]
      simp only
      rw [if_neg (by rw [hs]; decide), List.getElem?_set_self hlt]
      exact ih
    · have hy := hL hs
      rw [putV_L hi hs hy]
      have hlt := (List.getElem?_eq_some_iff.1 hy).1
      simp only [goV, subV]
      rw [subI_setL, hi]
      simp only
      rw [if_pos hs, List.getElem?_set_self hlt]
      exact ih
/-- Two steps that aren't one lead elsewhere. -/
theorem subI_ne {k n : Int} {t : ByteArray} {l : List Va} {ks : List ByteArray} {f : List Va} {s r : St} {i j : Nat} (hs : StR s) (hr : StR r) (hne : s ≠ r) (hi : subI (.mk k n t l ks f) s = some i) (hj : subI (.mk k n t l ks f) r = some j) : s.i = r.i ∧ i ≠ j := by
  obtain ⟨sk, sa, si⟩ := s
  obtain ⟨rk, ra, ri⟩ := r
  simp only [subI] at hi hj
  rcases hs with ⟨e1, h1, h2, h3⟩ | ⟨e1, h1, h2⟩ <;> rcases hr with ⟨e2, g1, g2, g3⟩ | ⟨e2, g1, g2⟩
  · simp only at e1 e2 h1 h2 g1 g2
    subst e1 e2
    rw [if_pos rfl] at hi hj
    split at hi
    · split at hj
      · cases hi
        cases hj
        refine ⟨rfl, fun e => hne ?_⟩
        have hk : sk = rk := (empty_of h1).trans (empty_of g1).symm
        have ha : sa = ra := by omega
        rw [hk, ha]
      · cases hj
    · cases hi
  · simp only at e1 e2
    subst e1 e2
    rw [if_pos rfl] at hi
    rw [if_neg (by decide)] at hj
    split at hi
    · rename_i hc
      split at hj
      · rename_i hd
        exact absurd (hc.1.symm.trans hd) (by decide)
      · cases hj
    · cases hi
  · simp only at e1 e2
    subst e1 e2
    rw [if_neg (by decide)] at hi
    rw [if_pos rfl] at hj
    split at hj
    · rename_i hc
      split at hi
      · rename_i hd
        exact absurd (hc.1.symm.trans hd) (by decide)
      · cases hi
    · cases hj
  · simp only at e1 e2 h1 g1
    subst e1 e2 h1 g1
    rw [if_neg (by decide)] at hi hj
    split at hi
    · rw [if_pos (by assumption)] at hj
      refine ⟨rfl, fun e => hne ?_⟩
      have a1 := (kIdx_some hi).1
      have a2 := (kIdx_some hj).1
      rw [e, a2] at a1
      cases a1
      rfl
    · cases hi
/-- What is elsewhere stays. -/
theorem go_other (x : Va) : ∀ (p q : List St) (a : Va), (∀ s ∈ p, StR s) → (∀ s ∈ q, StR s) → (goV a p).isSome = true → ¬ (p.length ≤ q.length ∧ p = q.take p.length) → ¬ (q.length ≤ p.length ∧ q = p.take q.length) → goV (putV a p x) q = goV a q
  | [], q, a, _, _, _, h1, _ => absurd ⟨by simp, by simp⟩ h1
  | s :: p, [], a, _, _, _, _, h2 => absurd ⟨by simp, by simp⟩ h2
  | s :: p, r :: q, .mk k n t l ks f, hp, hq, h, h1, h2 => by
    obtain ⟨b, hb⟩ := Option.isSome_iff_exists.1 h
    obtain ⟨i, y, hi, hL, hF, hg⟩ := goV_cons hb
    by_cases e : s = r
    · subst e
      have ih := go_other x p q y (fun t ht => hp t (by simp [ht])) (fun t ht => hq t (by simp [ht])) (by rw [hg]; rfl)
        (fun hh => h1 ⟨by simp; exact hh.1, by simp; exact hh.2⟩) (fun hh => h2 ⟨by simp; exact hh.1, by simp; exact hh.2⟩)
      cases hs : s.i
      · have hy := hF hs
        have hlt := (List.getElem?_eq_some_iff.1 hy).1
        rw [putV_F hi hs hy]
        simp only [goV, subV]
        rw [subI_setF, hi]
        simp only
        rw [if_neg (by rw [hs]; decide), if_neg (by rw [hs]; decide), List.getElem?_set_self hlt, hy]
        exact ih
      · have hy := hL hs
        have hlt := (List.getElem?_eq_some_iff.1 hy).1
        rw [putV_L hi hs hy]
        simp only [goV, subV]
        rw [subI_setL, hi]
        simp only
        rw [if_pos hs, if_pos hs, List.getElem?_set_self hlt, hy]
        exact ih
    · cases hs : s.i
      · have hy := hF hs
        rw [putV_F hi hs hy]
        simp only [goV, subV]
        rw [subI_setF]
        cases hj : subI (.mk k n t l ks f) r with
        | none => rfl
        | some j =>
          obtain ⟨he, hij⟩ := subI_ne (hp s (by simp)) (hq r (by simp)) e hi hj
          simp only
          rw [if_neg (by rw [← he, hs]; decide), if_neg (by rw [← he, hs]; decide), List.getElem?_set_ne hij]
      · have hy := hL hs
        rw [putV_L hi hs hy]
        simp only [goV, subV]
        rw [subI_setL]
        cases hj : subI (.mk k n t l ks f) r with
        | none => rfl
        | some j =>
          obtain ⟨he, hij⟩ := subI_ne (hp s (by simp)) (hq r (by simp)) e hi hj
          simp only
          rw [if_pos (by rw [← he, hs]), if_pos (by rw [← he, hs]), List.getElem?_set_ne hij]
end Go.Proofs.Ytmdlcalnncncjaa
