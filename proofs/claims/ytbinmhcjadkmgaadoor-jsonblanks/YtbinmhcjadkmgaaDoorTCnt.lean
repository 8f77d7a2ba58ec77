/- The reference's Count. -/
import Derived.Test.YtbinmhcjadkmgaaDoorTFew
set_option linter.unusedVariables false
set_option linter.unusedSimpArgs false
namespace Go.Proofs.YtbinmhcjadkmgaaDoor
open Go.RowKit
theorem cntL_take_step {l : List Va} {i : Nat} {x : Va} (h : l[i]? = some x) : cntL (l.take (i + 1)) = cntL (l.take i) + x.cnt := by
  rw [take_next h, cntL_app]; simp [cntL]
theorem cntL_take_le (l : List Va) (i : Nat) : cntL (l.take i) ≤ cntL l := by
  have := cntL_app (l.take i) (l.drop i)
  rw [List.take_append_drop] at this
  omega
end Go.Proofs.YtbinmhcjadkmgaaDoor
