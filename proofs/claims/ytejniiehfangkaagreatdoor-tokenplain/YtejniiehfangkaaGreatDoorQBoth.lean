/- The listed variables of the laws that read: the table's cell, and what strconv.ErrSyntax holds. -/
import Derived.Test.YtejniiehfangkaaGreatDoorQAwake
import Derived.Test.YtejniiehfangkaaGreatDoorUWalk
set_option linter.unusedVariables false
set_option linter.unusedSimpArgs false
namespace Go.Proofs.YtejniiehfangkaaGreatDoor
open Go.RowKit
def Both (w : World) : Prop := Tab16 w ∧ ErrV w
theorem Both.go {w w' : World} (h : Both w) (hb : Below w.heap.size w w') : Both w' := ⟨h.1.go hb, h.2.go hb⟩
theorem gErr : Tryz.prog.globalNamed "strconv.ErrSyntax" = some 0 := by kernel_rfl
theorem tyErr : (Tryz.prog.globals[(0 : Nat)]?).map (·.type) = some 56 := by kernel_rfl
theorem rowErr (u : TypeId) (hu : Tryz.prog.typeName? 3 u = some "*errors.errorString") : u = 128 :=
  typeName_ptr_named (P := Tryz.prog) (nm := "errors.errorString") (by kernel_rfl) (by kernel_rfl) (by decide) u hu
theorem err_of {r : List (String × DataW Unit)} {W : World} (h : laidMet Tryz.prog (("strconv.ErrSyntax", Rows.laid_strconv_ErrSyntax) :: r) W) : ErrV W := by
  obtain ⟨a, s, hv, _⟩ := laid_sentinel h gErr tyErr Tryz.underlying56 rowErr Tryz.underlying128 Tryz.underlying130 rfl rfl Tryz.underlying9 (by kernel_rfl) (by kernel_rfl)
  have := World.var?_cell gErr hv 0
  exact ⟨_, _, by simpa using this⟩
theorem both_of {a b d : String × DataW Unit} {W : World} (h : laidMet Tryz.prog (a :: ("math/bits.deBruijn64tab", Rows.laid_math_bits_deBruijn64tab) :: b :: d :: [("strconv.ErrSyntax", Rows.laid_strconv_ErrSyntax)]) W) : Both W :=
  ⟨tab_of h, err_of h.tail.tail.tail.tail⟩
/-- Unquote, whatever stands there. -/
theorem unq_any (s : ByteArray) (hs : s.size ≤ 1048576) (w : World) (hE : ErrV w) : Calls Tryz.prog 40 #[.string s] w fun e w' => e = unqE s ∧ Below w.heap.size w w' := by
  by_cases h : 0 < s.size ∧ (s.get! 0).toNat = 34
  · exact unq_some s hs h.1 h.2 w hE
  · exact unq_none s hs h w
end Go.Proofs.YtejniiehfangkaaGreatDoor
