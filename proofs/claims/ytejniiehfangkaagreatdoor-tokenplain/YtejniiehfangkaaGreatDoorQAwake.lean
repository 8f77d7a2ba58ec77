/- Quote of what is no text; that the program is awake; what the listed variables read as. -/
import Derived.Test.YtejniiehfangkaaGreatDoorQRef
import Derived.Test.YtejniiehfangkaaGreatDoorTie
import Derived.LaidMore
import Derived.Lib.LaidTab
import Derived.Stop.LaidErr
set_option linter.unusedVariables false
set_option linter.unusedSimpArgs false
namespace Go.Proofs.YtejniiehfangkaaGreatDoor
open Go.RowKit
theorem quote_no (s : ByteArray) (hs : s.size ≤ maxLen) (hr : rightB s = false) (w : World) :
    Calls Tryz.prog 49 #[.string s] w fun e w' => e = .returned (.tuple #[.string ⟨#[]⟩, .int .i64 2]) ∧ Below w.heap.size w w' := by
  have HR := Lib.hid hr
  clear hr
  go_enter Tryz.func49, Tryz.ntmps49
  go_wp2_with fail
  refine (right_any s hs _).mono ?_
  rw [HR.out]
  rintro e w1 ⟨rfl, hb1⟩
  go_wp2_with fail
  go_ret2
  exact ⟨rfl, hb1⟩
theorem quoteA : quoteB ⟨#[97]⟩ = ⟨#[34, 97, 34]⟩ := by decide +kernel
theorem Tab16.go {w w' : World} (h : Tab16 w) (hb : Below w.heap.size w w') : Tab16 w' := ((tabB_of h).go hb).1
/-! ### the listed variables -/
theorem gTab : Tryz.prog.globalNamed "math/bits.deBruijn64tab" = some 5 := by kernel_rfl
theorem tyTab : (Tryz.prog.globals[(5 : Nat)]?).map (·.type) = some 149 := by kernel_rfl
def nums64 : List Int := [0, 1, 56, 2, 57, 49, 28, 3, 61, 58, 42, 50, 38, 29, 17, 4, 62, 47, 59, 36, 45, 43, 51, 22, 53, 39, 33, 30, 24, 18, 12, 5, 63, 55, 48, 27, 60, 41, 37, 16, 46, 35, 44, 21, 52, 32, 23, 11, 54, 26, 40, 15, 34, 20, 31, 10, 25, 14, 19, 9, 13, 8, 7, 6]
theorem tab_of {x : String × DataW Unit} {r : List (String × DataW Unit)} {W : World} (h : laidMet Tryz.prog (x :: ("math/bits.deBruijn64tab", Rows.laid_math_bits_deBruijn64tab) :: r) W) : Tab16 W := by
  have h2 : laidMet Tryz.prog (("math/bits.deBruijn64tab", Lib.tabData .u8 nums64) :: r) W := h.tail
  have h3 := Lib.tabIs_of_head gTab tyTab Tryz.underlying149 Tryz.underlying5 (by kernel_rfl) (by kernel_rfl) h2
  exact h3.cell gTab 15 (by decide)
end Go.Proofs.YtejniiehfangkaaGreatDoor
