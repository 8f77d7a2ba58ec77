/- An argument of two paths, opened. -/
import Derived.Test.YtmdlcalnncncjaaPOpen
import Derived.OpenShut
set_option linter.unusedVariables false
set_option linter.unusedSimpArgs false
namespace Go.Proofs.Ytmdlcalnncncjaa
open Go.RowKit Go.ChangeShapes Go.WideShapes Go.Deep
theorem cells63 : Try.prog.cellsOf 63 = 2 := by kernel_rfl
theorem cells50 : Try.prog.cellsOf 50 = 1 := by kernel_rfl
section
variable {H : Type} {enc : TypeId × Value → H} {W : World} {base : Nat} {spare : Nat → Bool} {held : Bool}
theorem two_of {cs : List Value} (h : cs.length = 2) : ∃ a b, cs = [a, b] := by
  match cs, h with
  | [a, b], _ => exact ⟨a, b, rfl⟩
set_option maxRecDepth 100000 in
theorem open_paths2 {r : Reach} {b0 : Nat} {v : Value} {d : DataW H} {p : List MemPlace} (hv : Value.okWide Try.prog W r b0 63 v) (h : DataW.Trod enc Try.prog W base spare held 63 v d p) :
    ∃ A n c p B m d q, v = .agg #[.slice A n c, .slice B m d] ∧ IsPath W A n c p ∧ IsPath W B m d q := by
  have hv2 := hv
  simp only [Value.okWide, Try.underlying63] at hv2
  obtain ⟨cs, rfl, hsz, _⟩ := hv2
  obtain ⟨fuel, hf⟩ := h
  have hf' : DataW.trod enc Try.prog W base spare held fuel 63 cs.toList = some (d, p) := hf
  obtain ⟨xs, m, -, -, hlen, hxl, hel⟩ := DataW.trod_array Try.underlying63 hf'
  rw [cells63] at hlen
  obtain ⟨c0, c1, hcs⟩ := two_of hlen
  have e0 := hel 0 (by decide)
  have e1 := hel 1 (by decide)
  rw [cells50, hcs, List.getElem?_eq_getElem (by omega)] at e0 e1
  have g0 : DataW.trod enc Try.prog W base spare held m 50 [c0] = some xs[0] := e0
  have g1 : DataW.trod enc Try.prog W base spare held m 50 [c1] = some xs[1] := e1
  obtain ⟨A, n, c, pp, rfl, hp⟩ := is_path g0
  obtain ⟨B, n2, c2, qq, rfl, hq⟩ := is_path g1
  refine ⟨A, n, c, pp, B, n2, c2, qq, ?_, hp, hq⟩
  have : cs = [Value.slice A n c, Value.slice B n2 c2].toArray := by rw [← hcs]
  rw [this]
end
end Go.Proofs.Ytmdlcalnncncjaa
