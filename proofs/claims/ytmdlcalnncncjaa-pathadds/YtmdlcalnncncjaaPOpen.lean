/- Arguments that are paths, opened. -/
import Derived.Test.YtmdlcalnncncjaaPPa
import Derived.Test.YtmdlcalnncncjaaTOpen
set_option linter.unusedVariables false
set_option linter.unusedSimpArgs false
namespace Go.Proofs.Ytmdlcalnncncjaa
open Go.RowKit Go.ChangeShapes Go.WideShapes Go.Deep
theorem cells72 : Try.prog.cellsOf 72 = 3 := by kernel_rfl
theorem cells4 : Try.prog.cellsOf 4 = 1 := by kernel_rfl
section
variable {H : Type} {enc : TypeId × Value → H} {W : World} {base : Nat} {spare : Nat → Bool} {held : Bool}
theorem three_of {cs : List Value} (h : cs.length = 3) : ∃ a b c, cs = [a, b, c] := by
  match cs, h with
  | [a, b, c], _ => exact ⟨a, b, c, rfl⟩
theorem is_step {fuel : Nat} {cs : List Value} {x : DataW H × List MemPlace} (hx : DataW.trod enc Try.prog W base spare held fuel 72 cs = some x) : ∃ s : St, cs = s.cells ∧ s.ok := by
  obtain ⟨xs, n, hn, -, hlen, hxl, hf⟩ := DataW.trod_struct Try.underlying72 hx
  rw [cells72] at hlen
  obtain ⟨c0, c1, c2, rfl⟩ := three_of hlen
  have f0 : DataW.trod enc Try.prog W base spare held n 9 (([c0, c1, c2].drop 0).take (Try.prog.cellsOf 9)) = xs[0]? := hf 0 _ rfl
  have f1 : DataW.trod enc Try.prog W base spare held n 3 (([c0, c1, c2].drop 1).take (Try.prog.cellsOf 3)) = xs[1]? := hf 1 _ rfl
  have f2 : DataW.trod enc Try.prog W base spare held n 4 (([c0, c1, c2].drop 2).take (Try.prog.cellsOf 4)) = xs[2]? := hf 2 _ rfl
  rw [cells9] at f0
  rw [cells3] at f1
  rw [cells4] at f2
  have hx3 : xs.length = 3 := hxl
  rw [List.getElem?_eq_getElem (by omega)] at f0 f1 f2
  obtain ⟨s, e0, -, w0⟩ := DataW.trod_string Try.underlying9 f0
  obtain ⟨m, e1, -, w1⟩ := DataW.trod_int Try.underlying3 f1
  obtain ⟨b, e2, -⟩ := DataW.trod_bool Try.underlying4 f2
  have g0 : c0 = .string s := by simpa using e0
  have g1 : c1 = .int .i64 m := by simpa using e1
  have g2 : c2 = .bool b := by simpa using e2
  subst g0 g1 g2
  exact ⟨⟨s, m, b⟩, rfl, w0, wf_bounds w1⟩
/-- What a path that is handed in is. -/
def IsPath (W : World) (A : Option Addr) (n c : Nat) (p : List St) : Prop := n = p.length ∧ p.length ≤ c ∧ p.length ≤ maxLen ∧ PathAt W A p
theorem is_path {fuel : Nat} {v : Value} {x : DataW H × List MemPlace} (hx : DataW.trod enc Try.prog W base spare held fuel 50 [v] = some x) : ∃ A n c p, v = .slice A n c ∧ IsPath W A n c p := by
  rcases DataW.trod_slice Try.underlying50 hx with ⟨e, -⟩ | ⟨ad, len, cap, elems, rest, n', hn', e, -, hb, hlc, hm, hel, hE, -, -⟩
  · exact ⟨none, 0, 0, [], by simpa using e, rfl, Nat.le_refl _, by decide, PathAt.nil _ _⟩
  · have hall : ∀ i, i < len → ∃ s : St, s.ok ∧ ∀ (j : Nat) u, s.cells[j]? = some u → W.cell? (ad.add (i * 3 + j)) = some u := by
      intro i hi
      have h1 := hE i hi
      rw [List.getElem?_eq_getElem (by omega), Option.bind_eq_some_iff] at h1
      obtain ⟨cs', hc, ht⟩ := h1
      obtain ⟨s, rfl, hl⟩ := is_step ht
      refine ⟨s, hl, fun j u hu => ?_⟩
      obtain ⟨-, hcl, hat⟩ := World.cells?_some hc
      have hj : j < 3 := (List.getElem?_eq_some_iff.1 hu).1
      have := hat j (by rw [cells72]; exact hj)
      rw [cells72, ada] at this
      rw [this]
      exact hu
    obtain ⟨pl, hpl, hp⟩ := list_of len hall
    refine ⟨some ad, len, cap, pl, by simpa using e, hpl.symm, by omega, by omega, fun i s hs => ⟨ad, rfl, ?_, At3.of fun j c hj => ?_, (hp i s hs).1⟩⟩
    · have := (hp i s hs).2 0 _ rfl
      exact World.block_lt_of_cell? W _ this
    · rw [ada]
      exact (hp i s hs).2 j c hj
set_option maxRecDepth 100000 in
theorem open_path {r : Reach} {b0 : Nat} {v : Value} {d : DataW H} {p : List MemPlace} (hv : Value.okWide Try.prog W r b0 50 v) (h : DataW.Trod enc Try.prog W base spare held 50 v d p) :
    ∃ A n c p, v = .slice A n c ∧ IsPath W A n c p := by
  obtain ⟨A, n, c, rfl⟩ := okWide_slice Try.underlying50 hv
  obtain ⟨fuel, hf⟩ := h
  exact is_path hf
end
end Go.Proofs.Ytmdlcalnncncjaa
