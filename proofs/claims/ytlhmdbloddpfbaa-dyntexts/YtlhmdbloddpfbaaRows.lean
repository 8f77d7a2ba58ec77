/-
  NARROWER THAN 'FOR EVERY INPUT', by the rows' own cells (each row's printed sentence says how): TreeRight: loops · TreeSame: loops · TreeGets: loops · TreeWith: loops · TreeOrders: loops · TreeOwn: loops · DynTo: loops · DynFrom: loops · DynGoes: loops · DynTexts: loops · DynSums: loops.
  DERIVED. THE GIVEN ROWS OF THIS SEAT. 11 by the template 'for every input the law returns true; each argument reads behind the call as it read before'; 0 by the template 'total and deterministic' (their statements: YtlhmdbloddpfbaaTotals.lean).
  GIVEN WITH THE SEED: the statements are not yours to turn. If you find one false, say at which input.
  Laid BY PROGRAM, IN A SANDBOX (cutbox-rows.mjs): the forced cells as the released guide's own fill.sh prints them over the translation 1d662aa8ba5f9818… (all of the seat's roots in one cut). By AI agents, Wed Nov 11 2026. No macro, syntax, notation, axiom, sorry.
-/
import Derived.Test.YtlhmdbloddpfbaaChecked
import GoSem.Claim
import GoSem.ClaimJoined
import GoSem.ClaimMapViews
import Derived.JoinedTies
import Derived.KernelRfl
namespace Go.Proofs.Ytlhmdbloddpfbaa
/- THE CELL 'sum', in the pinned program and in every row, IS THE sha256 OF THE DUMP (.gsa) THAT YtlhmdbloddpfbaaProg.lean LOADS. Nothing in Lean hashes anything: it is a label: what it is worth is what the hold of that sum in a sandbox is worth. -/
noncomputable def Try.pinned : Pinned := { name := "ytlhmdbloddpfbaa", sum := "1d662aa8ba5f981873d6f8e1857fd3013f466203e102c9912bfac151537dcad9", checked := Try.checked }
namespace Rows
def none {H : Type} : Left H := { results := [], args := [] }

/-- 'cascadelaw03.TreeRight': WHATEVER THE INPUT: true; the input reads as it did. -/
def treeRightSpec : ChangeSpec := { name := "treeRight", fn := fun _ => fun
  | [d] => { results := [.lit (.bool true)], args := [d] }
  | _ => none }
def treeRightRow : OpenClaim := { program := "ytlhmdbloddpfbaa", sum := "1d662aa8ba5f981873d6f8e1857fd3013f466203e102c9912bfac151537dcad9", func := "cascade/cascadelaw03.TreeRight", spec := "treeRight", unfollowed := true, recurses := true, loops := true, apart := false }
def TreeRightSaid : Prop := treeRightRow.holds Try.pinned (OpenSpec.ofChange treeRightSpec)

/-- ITS FALSE NEIGHBOUR: 'it returns false'. Refute it at one input. -/
def treeRightWrong : ChangeSpec := { name := "treeRight", fn := fun _ => fun
  | [d] => { results := [.lit (.bool false)], args := [d] }
  | _ => none }
def TreeRightWrongFalsely : Prop := treeRightRow.holds Try.pinned (OpenSpec.ofChange treeRightWrong)

/-- 'cascadelaw03.TreeSame': WHATEVER THE INPUT: true; the input reads as it did. -/
def treeSameSpec : ChangeSpec := { name := "treeSame", fn := fun _ => fun
  | [d1, d2] => { results := [.lit (.bool true)], args := [d1, d2] }
  | _ => none }
def treeSameRow : OpenClaim := { program := "ytlhmdbloddpfbaa", sum := "1d662aa8ba5f981873d6f8e1857fd3013f466203e102c9912bfac151537dcad9", func := "cascade/cascadelaw03.TreeSame", spec := "treeSame", unfollowed := true, recurses := true, loops := true, apart := false }
def TreeSameSaid : Prop := treeSameRow.holds Try.pinned (OpenSpec.ofChange treeSameSpec)

/-- ITS FALSE NEIGHBOUR: 'it returns false'. Refute it at one input. -/
def treeSameWrong : ChangeSpec := { name := "treeSame", fn := fun _ => fun
  | [d1, d2] => { results := [.lit (.bool false)], args := [d1, d2] }
  | _ => none }
def TreeSameWrongFalsely : Prop := treeSameRow.holds Try.pinned (OpenSpec.ofChange treeSameWrong)

/-- 'cascadelaw03.TreeGets': WHATEVER THE INPUT: true; the input reads as it did. -/
def treeGetsSpec : ChangeSpec := { name := "treeGets", fn := fun _ => fun
  | [d1, d2] => { results := [.lit (.bool true)], args := [d1, d2] }
  | _ => none }
def treeGetsRow : OpenClaim := { program := "ytlhmdbloddpfbaa", sum := "1d662aa8ba5f981873d6f8e1857fd3013f466203e102c9912bfac151537dcad9", func := "cascade/cascadelaw03.TreeGets", spec := "treeGets", unfollowed := true, recurses := true, loops := true, apart := false }
def TreeGetsSaid : Prop := treeGetsRow.holds Try.pinned (OpenSpec.ofChange treeGetsSpec)

/-- ITS FALSE NEIGHBOUR: 'it returns false'. Refute it at one input. -/
def treeGetsWrong : ChangeSpec := { name := "treeGets", fn := fun _ => fun
  | [d1, d2] => { results := [.lit (.bool false)], args := [d1, d2] }
  | _ => none }
def TreeGetsWrongFalsely : Prop := treeGetsRow.holds Try.pinned (OpenSpec.ofChange treeGetsWrong)

/-- 'cascadelaw03.TreeWith': WHATEVER THE INPUT: true; the input reads as it did. -/
def treeWithSpec : ChangeSpec := { name := "treeWith", fn := fun _ => fun
  | [d1, d2, d3] => { results := [.lit (.bool true)], args := [d1, d2, d3] }
  | _ => none }
def treeWithRow : OpenClaim := { program := "ytlhmdbloddpfbaa", sum := "1d662aa8ba5f981873d6f8e1857fd3013f466203e102c9912bfac151537dcad9", func := "cascade/cascadelaw03.TreeWith", spec := "treeWith", unfollowed := true, recurses := true, loops := true, apart := false }
def TreeWithSaid : Prop := treeWithRow.holds Try.pinned (OpenSpec.ofChange treeWithSpec)

/-- ITS FALSE NEIGHBOUR: 'it returns false'. Refute it at one input. -/
def treeWithWrong : ChangeSpec := { name := "treeWith", fn := fun _ => fun
  | [d1, d2, d3] => { results := [.lit (.bool false)], args := [d1, d2, d3] }
  | _ => none }
def TreeWithWrongFalsely : Prop := treeWithRow.holds Try.pinned (OpenSpec.ofChange treeWithWrong)

/-- 'cascadelaw03.TreeOrders': WHATEVER THE INPUT: true; the input reads as it did. -/
def treeOrdersSpec : ChangeSpec := { name := "treeOrders", fn := fun _ => fun
  | [d1, d2] => { results := [.lit (.bool true)], args := [d1, d2] }
  | _ => none }
def treeOrdersRow : OpenClaim := { program := "ytlhmdbloddpfbaa", sum := "1d662aa8ba5f981873d6f8e1857fd3013f466203e102c9912bfac151537dcad9", func := "cascade/cascadelaw03.TreeOrders", spec := "treeOrders", unfollowed := true, recurses := true, loops := true, apart := false }
def TreeOrdersSaid : Prop := treeOrdersRow.holds Try.pinned (OpenSpec.ofChange treeOrdersSpec)

/-- ITS FALSE NEIGHBOUR: 'it returns false'. Refute it at one input. -/
def treeOrdersWrong : ChangeSpec := { name := "treeOrders", fn := fun _ => fun
  | [d1, d2] => { results := [.lit (.bool false)], args := [d1, d2] }
  | _ => none }
def TreeOrdersWrongFalsely : Prop := treeOrdersRow.holds Try.pinned (OpenSpec.ofChange treeOrdersWrong)

/-- 'cascadelaw03.TreeOwn': WHATEVER THE INPUT: true; the input reads as it did. -/
def treeOwnSpec : ChangeSpec := { name := "treeOwn", fn := fun _ => fun
  | [d1, d2] => { results := [.lit (.bool true)], args := [d1, d2] }
  | _ => none }
def treeOwnRow : OpenClaim := { program := "ytlhmdbloddpfbaa", sum := "1d662aa8ba5f981873d6f8e1857fd3013f466203e102c9912bfac151537dcad9", func := "cascade/cascadelaw03.TreeOwn", spec := "treeOwn", unfollowed := true, recurses := true, loops := true, apart := false }
def TreeOwnSaid : Prop := treeOwnRow.holds Try.pinned (OpenSpec.ofChange treeOwnSpec)

/-- ITS FALSE NEIGHBOUR: 'it returns false'. Refute it at one input. -/
def treeOwnWrong : ChangeSpec := { name := "treeOwn", fn := fun _ => fun
  | [d1, d2] => { results := [.lit (.bool false)], args := [d1, d2] }
  | _ => none }
def TreeOwnWrongFalsely : Prop := treeOwnRow.holds Try.pinned (OpenSpec.ofChange treeOwnWrong)

/-- 'cascadelaw04.DynTo': WHATEVER THE INPUT: true; the input reads as it did. -/
def dynToSpec : ChangeSpec := { name := "dynTo", fn := fun _ => fun
  | [d] => { results := [.lit (.bool true)], args := [d] }
  | _ => none }
def dynToRow : OpenClaim := { program := "ytlhmdbloddpfbaa", sum := "1d662aa8ba5f981873d6f8e1857fd3013f466203e102c9912bfac151537dcad9", func := "cascade/cascadelaw04.DynTo", spec := "dynTo", unfollowed := true, recurses := true, loops := true, apart := false }
def DynToSaid : Prop := dynToRow.holds Try.pinned (OpenSpec.ofChange dynToSpec)

/-- ITS FALSE NEIGHBOUR: 'it returns false'. Refute it at one input. -/
def dynToWrong : ChangeSpec := { name := "dynTo", fn := fun _ => fun
  | [d] => { results := [.lit (.bool false)], args := [d] }
  | _ => none }
def DynToWrongFalsely : Prop := dynToRow.holds Try.pinned (OpenSpec.ofChange dynToWrong)

/-- 'cascadelaw04.DynFrom': WHATEVER THE INPUT: true; the input reads as it did. -/
def dynFromSpec : ChangeSpec := { name := "dynFrom", fn := fun _ => fun
  | [d] => { results := [.lit (.bool true)], args := [d] }
  | _ => none }
def dynFromRow : OpenClaim := { program := "ytlhmdbloddpfbaa", sum := "1d662aa8ba5f981873d6f8e1857fd3013f466203e102c9912bfac151537dcad9", func := "cascade/cascadelaw04.DynFrom", spec := "dynFrom", unfollowed := true, recurses := true, loops := true, apart := false }
def DynFromSaid : Prop := dynFromRow.holds Try.pinned (OpenSpec.ofChange dynFromSpec)

/-- ITS FALSE NEIGHBOUR: 'it returns false'. Refute it at one input. -/
def dynFromWrong : ChangeSpec := { name := "dynFrom", fn := fun _ => fun
  | [d] => { results := [.lit (.bool false)], args := [d] }
  | _ => none }
def DynFromWrongFalsely : Prop := dynFromRow.holds Try.pinned (OpenSpec.ofChange dynFromWrong)

/-- 'cascadelaw04.DynGoes': WHATEVER THE INPUT: true; the input reads as it did. -/
def dynGoesSpec : ChangeSpec := { name := "dynGoes", fn := fun _ => fun
  | [d1, d2] => { results := [.lit (.bool true)], args := [d1, d2] }
  | _ => none }
def dynGoesRow : OpenClaim := { program := "ytlhmdbloddpfbaa", sum := "1d662aa8ba5f981873d6f8e1857fd3013f466203e102c9912bfac151537dcad9", func := "cascade/cascadelaw04.DynGoes", spec := "dynGoes", unfollowed := true, recurses := true, loops := true, apart := false }
def DynGoesSaid : Prop := dynGoesRow.holds Try.pinned (OpenSpec.ofChange dynGoesSpec)

/-- ITS FALSE NEIGHBOUR: 'it returns false'. Refute it at one input. -/
def dynGoesWrong : ChangeSpec := { name := "dynGoes", fn := fun _ => fun
  | [d1, d2] => { results := [.lit (.bool false)], args := [d1, d2] }
  | _ => none }
def DynGoesWrongFalsely : Prop := dynGoesRow.holds Try.pinned (OpenSpec.ofChange dynGoesWrong)

/-- 'cascadelaw04.DynTexts': WHATEVER THE INPUT: true; the input reads as it did. -/
def dynTextsSpec : ChangeSpec := { name := "dynTexts", fn := fun _ => fun
  | [d] => { results := [.lit (.bool true)], args := [d] }
  | _ => none }
def dynTextsRow : OpenClaim := { program := "ytlhmdbloddpfbaa", sum := "1d662aa8ba5f981873d6f8e1857fd3013f466203e102c9912bfac151537dcad9", func := "cascade/cascadelaw04.DynTexts", spec := "dynTexts", unfollowed := true, recurses := true, loops := true, apart := false }
def DynTextsSaid : Prop := dynTextsRow.holds Try.pinned (OpenSpec.ofChange dynTextsSpec)

/-- ITS FALSE NEIGHBOUR: 'it returns false'. Refute it at one input. -/
def dynTextsWrong : ChangeSpec := { name := "dynTexts", fn := fun _ => fun
  | [d] => { results := [.lit (.bool false)], args := [d] }
  | _ => none }
def DynTextsWrongFalsely : Prop := dynTextsRow.holds Try.pinned (OpenSpec.ofChange dynTextsWrong)

/-- 'cascadelaw04.DynSums': WHATEVER THE INPUT: true; the input reads as it did. -/
def dynSumsSpec : ChangeSpec := { name := "dynSums", fn := fun _ => fun
  | [d] => { results := [.lit (.bool true)], args := [d] }
  | _ => none }
def dynSumsRow : OpenClaim := { program := "ytlhmdbloddpfbaa", sum := "1d662aa8ba5f981873d6f8e1857fd3013f466203e102c9912bfac151537dcad9", func := "cascade/cascadelaw04.DynSums", spec := "dynSums", unfollowed := true, recurses := true, loops := true, apart := false }
def DynSumsSaid : Prop := dynSumsRow.holds Try.pinned (OpenSpec.ofChange dynSumsSpec)

/-- ITS FALSE NEIGHBOUR: 'it returns false'. Refute it at one input. -/
def dynSumsWrong : ChangeSpec := { name := "dynSums", fn := fun _ => fun
  | [d] => { results := [.lit (.bool false)], args := [d] }
  | _ => none }
def DynSumsWrongFalsely : Prop := dynSumsRow.holds Try.pinned (OpenSpec.ofChange dynSumsWrong)

/- THE SECOND FORM. 'bulk': how many values and letters a reading holds, each counted each time it is reached (what is shared counts as often as it is met; a slice's spare places count too). A statement '..UptoSaid' is the law's where the arguments, and the package variables that the reading takes, are together of bulk at most 1048576: NARROWER than '..Said'. Prove '..Said' where nothing that the law and all that it calls make is longer than what came in: it says more and counts as full. Else prove '..UptoSaid'. A law counts once. -/
mutual
def uptoBulk {H : Type} : DataW H → Nat
  | .lit (.string bytes) => bytes.length + 1
  | .lit _ => 1
  | .nil => 1
  | .ptr d => uptoBulk d + 1
  | .slice elems spare => uptoBulkAll elems + uptoBulkAll spare + 1
  | .agg parts => uptoBulkAll parts + 1
  | .iface _ d => uptoBulk d + 1
  | .map entries => uptoBulkEntries entries + 1
  | .held _ => 1
def uptoBulkAll {H : Type} : List (DataW H) → Nat
  | [] => 0
  | d :: r => uptoBulk d + uptoBulkAll r
def uptoBulkEntries {H : Type} : List (Lit × DataW H) → Nat
  | [] => 0
  | x :: r => uptoBulkEntry x + uptoBulkEntries r
def uptoBulkEntry {H : Type} : Lit × DataW H → Nat
  | (.string bytes, d) => bytes.length + uptoBulk d + 1
  | (_, d) => uptoBulk d + 1
 end
def uptoSmall : (H : Type) → List (DataW H) → Bool := fun _ ds => decide (uptoBulkAll ds ≤ 1048576)
def OpenSpec.upto (s : _root_.Go.ChangeSpec) : _root_.Go.OpenSpec := { _root_.Go.OpenSpec.ofChange s with cond := some uptoSmall }

/-- 'cascadelaw03.TreeRight', WHERE WHAT IT READS IS OF BULK AT MOST 1048576: true; the input reads as it did. -/
def treeRightUptoRow : OpenClaim := { program := "ytlhmdbloddpfbaa", sum := "1d662aa8ba5f981873d6f8e1857fd3013f466203e102c9912bfac151537dcad9", func := "cascade/cascadelaw03.TreeRight", spec := "treeRight", unfollowed := true, recurses := true, loops := true, apart := false, narrowed := true }
def TreeRightUptoSaid : Prop := treeRightUptoRow.holds Try.pinned (OpenSpec.upto treeRightSpec)

/-- 'cascadelaw03.TreeSame', WHERE WHAT IT READS IS OF BULK AT MOST 1048576: true; the input reads as it did. -/
def treeSameUptoRow : OpenClaim := { program := "ytlhmdbloddpfbaa", sum := "1d662aa8ba5f981873d6f8e1857fd3013f466203e102c9912bfac151537dcad9", func := "cascade/cascadelaw03.TreeSame", spec := "treeSame", unfollowed := true, recurses := true, loops := true, apart := false, narrowed := true }
def TreeSameUptoSaid : Prop := treeSameUptoRow.holds Try.pinned (OpenSpec.upto treeSameSpec)

/-- 'cascadelaw03.TreeGets', WHERE WHAT IT READS IS OF BULK AT MOST 1048576: true; the input reads as it did. -/
def treeGetsUptoRow : OpenClaim := { program := "ytlhmdbloddpfbaa", sum := "1d662aa8ba5f981873d6f8e1857fd3013f466203e102c9912bfac151537dcad9", func := "cascade/cascadelaw03.TreeGets", spec := "treeGets", unfollowed := true, recurses := true, loops := true, apart := false, narrowed := true }
def TreeGetsUptoSaid : Prop := treeGetsUptoRow.holds Try.pinned (OpenSpec.upto treeGetsSpec)

/-- 'cascadelaw03.TreeWith', WHERE WHAT IT READS IS OF BULK AT MOST 1048576: true; the input reads as it did. -/
def treeWithUptoRow : OpenClaim := { program := "ytlhmdbloddpfbaa", sum := "1d662aa8ba5f981873d6f8e1857fd3013f466203e102c9912bfac151537dcad9", func := "cascade/cascadelaw03.TreeWith", spec := "treeWith", unfollowed := true, recurses := true, loops := true, apart := false, narrowed := true }
def TreeWithUptoSaid : Prop := treeWithUptoRow.holds Try.pinned (OpenSpec.upto treeWithSpec)

/-- 'cascadelaw03.TreeOrders', WHERE WHAT IT READS IS OF BULK AT MOST 1048576: true; the input reads as it did. -/
def treeOrdersUptoRow : OpenClaim := { program := "ytlhmdbloddpfbaa", sum := "1d662aa8ba5f981873d6f8e1857fd3013f466203e102c9912bfac151537dcad9", func := "cascade/cascadelaw03.TreeOrders", spec := "treeOrders", unfollowed := true, recurses := true, loops := true, apart := false, narrowed := true }
def TreeOrdersUptoSaid : Prop := treeOrdersUptoRow.holds Try.pinned (OpenSpec.upto treeOrdersSpec)

/-- 'cascadelaw03.TreeOwn', WHERE WHAT IT READS IS OF BULK AT MOST 1048576: true; the input reads as it did. -/
def treeOwnUptoRow : OpenClaim := { program := "ytlhmdbloddpfbaa", sum := "1d662aa8ba5f981873d6f8e1857fd3013f466203e102c9912bfac151537dcad9", func := "cascade/cascadelaw03.TreeOwn", spec := "treeOwn", unfollowed := true, recurses := true, loops := true, apart := false, narrowed := true }
def TreeOwnUptoSaid : Prop := treeOwnUptoRow.holds Try.pinned (OpenSpec.upto treeOwnSpec)

/-- 'cascadelaw04.DynTo', WHERE WHAT IT READS IS OF BULK AT MOST 1048576: true; the input reads as it did. -/
def dynToUptoRow : OpenClaim := { program := "ytlhmdbloddpfbaa", sum := "1d662aa8ba5f981873d6f8e1857fd3013f466203e102c9912bfac151537dcad9", func := "cascade/cascadelaw04.DynTo", spec := "dynTo", unfollowed := true, recurses := true, loops := true, apart := false, narrowed := true }
def DynToUptoSaid : Prop := dynToUptoRow.holds Try.pinned (OpenSpec.upto dynToSpec)

/-- 'cascadelaw04.DynFrom', WHERE WHAT IT READS IS OF BULK AT MOST 1048576: true; the input reads as it did. -/
def dynFromUptoRow : OpenClaim := { program := "ytlhmdbloddpfbaa", sum := "1d662aa8ba5f981873d6f8e1857fd3013f466203e102c9912bfac151537dcad9", func := "cascade/cascadelaw04.DynFrom", spec := "dynFrom", unfollowed := true, recurses := true, loops := true, apart := false, narrowed := true }
def DynFromUptoSaid : Prop := dynFromUptoRow.holds Try.pinned (OpenSpec.upto dynFromSpec)

/-- 'cascadelaw04.DynGoes', WHERE WHAT IT READS IS OF BULK AT MOST 1048576: true; the input reads as it did. -/
def dynGoesUptoRow : OpenClaim := { program := "ytlhmdbloddpfbaa", sum := "1d662aa8ba5f981873d6f8e1857fd3013f466203e102c9912bfac151537dcad9", func := "cascade/cascadelaw04.DynGoes", spec := "dynGoes", unfollowed := true, recurses := true, loops := true, apart := false, narrowed := true }
def DynGoesUptoSaid : Prop := dynGoesUptoRow.holds Try.pinned (OpenSpec.upto dynGoesSpec)

/-- 'cascadelaw04.DynTexts', WHERE WHAT IT READS IS OF BULK AT MOST 1048576: true; the input reads as it did. -/
def dynTextsUptoRow : OpenClaim := { program := "ytlhmdbloddpfbaa", sum := "1d662aa8ba5f981873d6f8e1857fd3013f466203e102c9912bfac151537dcad9", func := "cascade/cascadelaw04.DynTexts", spec := "dynTexts", unfollowed := true, recurses := true, loops := true, apart := false, narrowed := true }
def DynTextsUptoSaid : Prop := dynTextsUptoRow.holds Try.pinned (OpenSpec.upto dynTextsSpec)

/-- 'cascadelaw04.DynSums', WHERE WHAT IT READS IS OF BULK AT MOST 1048576: true; the input reads as it did. -/
def dynSumsUptoRow : OpenClaim := { program := "ytlhmdbloddpfbaa", sum := "1d662aa8ba5f981873d6f8e1857fd3013f466203e102c9912bfac151537dcad9", func := "cascade/cascadelaw04.DynSums", spec := "dynSums", unfollowed := true, recurses := true, loops := true, apart := false, narrowed := true }
def DynSumsUptoSaid : Prop := dynSumsUptoRow.holds Try.pinned (OpenSpec.upto dynSumsSpec)

end Rows
end Go.Proofs.Ytlhmdbloddpfbaa
