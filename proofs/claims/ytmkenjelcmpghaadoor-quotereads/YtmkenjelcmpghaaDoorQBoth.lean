/- The listed variables of the laws that read: the table's cell, and what strconv.ErrSyntax holds. -/
import Derived.Test.YtmkenjelcmpghaaDoorQAwake
import Derived.Test.YtmkenjelcmpghaaDoorUWalk
set_option linter.unusedVariables false
set_option linter.unusedSimpArgs false
namespace Go.Proofs.YtmkenjelcmpghaaDoor
open Go.RowKit
def Both (w : World) : Prop := Tab16 w ∧ ErrV w
theorem Both.go {w w' : World} (h : Both w) (hb : Below w.heap.size w w') : Both w' := ⟨h.1.go hb, h.2.go hb⟩
theorem gErr : Tryd.prog.globalNamed "strconv.ErrSyntax" = some 3 := by kernel_rfl
theorem tyErr : (Tryd.prog.globals[(3 : Nat)]?).map (·.type) = some 38 := by kernel_rfl
theorem rowErr (u : TypeId) (hu : Tryd.prog.typeName? 3 u = some "*errors.errorString") : u = 90 :=
  typeName_ptr_named (P := Tryd.prog) (nm := "errors.errorString") (by kernel_rfl) (by kernel_rfl) (by decide) u hu
theorem err_of {r : List (String × DataW Unit)} {W : World} (h : laidMet Tryd.prog (("strconv.ErrSyntax", Rows.laid_strconv_ErrSyntax) :: r) W) : ErrV W := by
  obtain ⟨a, s, hv, _⟩ := laid_sentinel h gErr tyErr Tryd.underlying38 rowErr Tryd.underlying90 Tryd.underlying92 rfl rfl Tryd.underlying9 (by kernel_rfl) (by kernel_rfl)
  have := World.var?_cell gErr hv 0
  exact ⟨_, _, by simpa using this⟩
theorem both_of {a b d : String × DataW Unit} {W : World} (h : laidMet Tryd.prog (a :: ("math/bits.deBruijn64tab", Rows.laid_math_bits_deBruijn64tab) :: b :: d :: [("strconv.ErrSyntax", Rows.laid_strconv_ErrSyntax)]) W) : Both W :=
  ⟨tab_of h, err_of h.tail.tail.tail.tail⟩
/-- Unquote, whatever stands there. -/
theorem unq_any (s : ByteArray) (hs : s.size ≤ 1048576) (w : World) (hE : ErrV w) : Calls Tryd.prog 12 #[.string s] w fun e w' => e = unqE s ∧ Below w.heap.size w w' := by
  by_cases h : 0 < s.size ∧ (s.get! 0).toNat = 34
  · exact unq_some s hs h.1 h.2 w hE
  · exact unq_none s hs h w
end Go.Proofs.YtmkenjelcmpghaaDoor
