/- An argument that is a list of values, opened. -/
import Derived.Test.YtmdlcalnncncjaaTOpen
import Derived.Test.YtmdlcalnncncjaaPAddP
import Derived.OpenShut
set_option linter.unusedVariables false
set_option linter.unusedSimpArgs false
namespace Go.Proofs.Ytmdlcalnncncjaa
open Go.RowKit Go.ChangeShapes Go.WideShapes Go.Deep
section
variable {H : Type} {enc : TypeId × Value → H} {W : World} {base : Nat} {spare : Nat → Bool} {held : Bool}
theorem is_values {fuel : Nat} {v : Value} {x : DataW H × List MemPlace} (hx : DataW.trod enc Try.prog W base spare held fuel 22 [v] = some x) : ∃ (A : Option Addr) (la lc : Nat) (l : List Va) (us : List Hd), v = .slice A la lc ∧ la = l.length ∧ la ≤ lc ∧ la ≤ maxLen ∧ RowAt W (fun _ => True) 5 A (us.map Hd.cells) ∧ LiesL W (fun _ => True) l us := by
  rcases DataW.trod_slice Try.underlying22 hx with ⟨e, -⟩ | ⟨ad, len, cap, elems, rest, n', hn', e, -, hb, hlc, hm, hel, hE, -, -⟩
  · exact ⟨none, 0, 0, [], [], by simpa using e, rfl, Nat.le_refl _, by decide, fun h => by simp at h, by unfold LiesL; rfl⟩
  · have hall : ∀ i, i < len → ∃ p : Va × Hd, Lies W (fun _ => True) p.1 p.2 ∧ ∀ (j : Nat) u, p.2.cells[j]? = some u → W.cell? (ad.add (i * 5 + j)) = some u := by
      intro i hi
      have h1 := hE i hi
      rw [List.getElem?_eq_getElem (by omega), Option.bind_eq_some_iff] at h1
      obtain ⟨cs', hc, ht⟩ := h1
      obtain ⟨a, h, rfl, hl⟩ := is_value n' cs' _ ht
      refine ⟨(a, h), hl, fun j u hu => ?_⟩
      obtain ⟨-, hcl, hat⟩ := World.cells?_some hc
      have hj : j < 5 := (List.getElem?_eq_some_iff.1 hu).1
      have := hat j (by rw [cells25]; exact hj)
      rw [cells25, ada] at this
      rw [this]
      exact hu
    obtain ⟨pl, hpl, hp⟩ := list_of len hall
    refine ⟨some ad, len, cap, pl.map (·.1), pl.map (·.2), by simpa using e, by simp [hpl], hlc, by omega, fun _ => ⟨ad, rfl, trivial, fun i c hi j u hu => ?_⟩, LiesL_mk (by simp) fun i y v hy hv => ?_⟩
    · rw [List.map_map, List.getElem?_map, Option.map_eq_some_iff] at hi
      obtain ⟨q, hq, rfl⟩ := hi
      exact (hp i q hq).2 j u hu
    · rw [List.getElem?_map, Option.map_eq_some_iff] at hy hv
      obtain ⟨q, hq, rfl⟩ := hy
      obtain ⟨q', hq', rfl⟩ := hv
      rw [hq] at hq'
      cases hq'
      exact (hp i q hq).1
set_option maxRecDepth 100000 in
theorem open_values {r : Reach} {b0 : Nat} {v : Value} {d : DataW H} {p : List MemPlace} (hv : Value.okWide Try.prog W r b0 22 v) (h : DataW.Trod enc Try.prog W base spare held 22 v d p) :
    ∃ A n c ins, v = .slice A n c ∧ Lies W (fun _ => True) (lsVa ins) (lsHd A n c) := by
  obtain ⟨A0, n0, c0, rfl⟩ := okWide_slice Try.underlying22 hv
  obtain ⟨fuel, hf⟩ := h
  obtain ⟨A, la, lc, l, us, e, hla, hlac, hlam, hr, hl⟩ := is_values hf
  refine ⟨A, la, lc, l, e, ?_⟩
  unfold Lies
  exact ⟨⟨rfl, rfl, rfl, hla, rfl, rfl⟩, ⟨by decide, by decide, by decide, by simp, by omega, by decide, by show l.length ≤ lc; omega, Nat.le_refl 0⟩, ⟨us, hr, hl⟩, ⟨[], fun h => by simp at h, by unfold LiesL; rfl⟩⟩
end
end Go.Proofs.Ytmdlcalnncncjaa
