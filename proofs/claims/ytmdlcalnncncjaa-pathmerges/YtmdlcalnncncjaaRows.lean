/-
  NARROWER THAN 'FOR EVERY INPUT', by the rows' own cells (each row's printed sentence says how): TreeRight: loops · TreeSame: loops · TreeGets: loops · TreeWith: loops · TreeOrders: loops · TreeOwn: loops · PathOf: loops · PathFinds: loops · PathPuts: loops · PathKeeps: loops · PathMerges: loops · PathAdds: loops.
  DERIVED. THE GIVEN ROWS OF THIS SEAT. 14 by the template 'for every input the law returns true; each argument reads behind the call as it read before'; 0 by the template 'total and deterministic' (their statements: YtmdlcalnncncjaaTotals.lean).
  GIVEN WITH THE SEED: the statements are not yours to turn. If you find one false, say at which input.
  Laid BY PROGRAM, IN A SANDBOX (cutbox-rows.mjs): the forced cells as the released guide's own fill.sh prints them over the translation c7055cf194371855… (all of the seat's roots in one cut). By AI agents, Wed Nov 11 2026. No macro, syntax, notation, axiom, sorry.
-/
import Derived.Test.YtmdlcalnncncjaaChecked
import GoSem.Claim
import GoSem.ClaimJoined
import GoSem.ClaimMapViews
import Derived.JoinedTies
import Derived.KernelRfl
namespace Go.Proofs.Ytmdlcalnncncjaa
/- THE CELL 'sum', in the pinned program and in every row, IS THE sha256 OF THE DUMP (.gsa) THAT YtmdlcalnncncjaaProg.lean LOADS. Nothing in Lean hashes anything: it is a label: what it is worth is what the hold of that sum in a sandbox is worth. -/
noncomputable def Try.pinned : Pinned := { name := "ytmdlcalnncncjaa", sum := "c7055cf1943718551de52fad48cac8a118b4b820b98aa50c921bbcde9f260039", checked := Try.checked }
namespace Rows
def none {H : Type} : Left H := { results := [], args := [] }

/-- 'cascadelaw03.TreeRight': WHATEVER THE INPUT: true; the input reads as it did. -/
def treeRightSpec : ChangeSpec := { name := "treeRight", fn := fun _ => fun
  | [d] => { results := [.lit (.bool true)], args := [d] }
  | _ => none }
def treeRightRow : OpenClaim := { program := "ytmdlcalnncncjaa", sum := "c7055cf1943718551de52fad48cac8a118b4b820b98aa50c921bbcde9f260039", func := "cascade/cascadelaw03.TreeRight", spec := "treeRight", unfollowed := true, recurses := true, loops := true, apart := false }
def TreeRightSaid : Prop := treeRightRow.holds Try.pinned (OpenSpec.ofChange treeRightSpec)

/-- ITS FALSE NEIGHBOUR: 'it returns false'. Refute it at one input. -/
def treeRightWrong : ChangeSpec := { name := "treeRight", fn := fun _ => fun
  | [d] => { results := [.lit (.bool false)], args := [d] }
  | _ => none }
def TreeRightWrongFalsely : Prop := treeRightRow.holds Try.pinned (OpenSpec.ofChange treeRightWrong)

/-- 'cascadelaw03.TreeSame': WHATEVER THE INPUT: true; the input reads as it did. -/
def treeSameSpec : ChangeSpec := { name := "treeSame", fn := fun _ => fun
  | [d1, d2] => { results := [.lit (.bool true)], args := [d1, d2] }
  | _ => none }
def treeSameRow : OpenClaim := { program := "ytmdlcalnncncjaa", sum := "c7055cf1943718551de52fad48cac8a118b4b820b98aa50c921bbcde9f260039", func := "cascade/cascadelaw03.TreeSame", spec := "treeSame", unfollowed := true, recurses := true, loops := true, apart := false }
def TreeSameSaid : Prop := treeSameRow.holds Try.pinned (OpenSpec.ofChange treeSameSpec)

/-- ITS FALSE NEIGHBOUR: 'it returns false'. Refute it at one input. -/
def treeSameWrong : ChangeSpec := { name := "treeSame", fn := fun _ => fun
  | [d1, d2] => { results := [.lit (.bool false)], args := [d1, d2] }
  | _ => none }
def TreeSameWrongFalsely : Prop := treeSameRow.holds Try.pinned (OpenSpec.ofChange treeSameWrong)

/-- 'cascadelaw03.TreeGets': WHATEVER THE INPUT: true; the input reads as it did. -/
def treeGetsSpec : ChangeSpec := { name := "treeGets", fn := fun _ => fun
  | [d1, d2] => { results := [.lit (.bool true)], args := [d1, d2] }
  | _ => none }
def treeGetsRow : OpenClaim := { program := "ytmdlcalnncncjaa", sum := "c7055cf1943718551de52fad48cac8a118b4b820b98aa50c921bbcde9f260039", func := "cascade/cascadelaw03.TreeGets", spec := "treeGets", unfollowed := true, recurses := true, loops := true, apart := false }
def TreeGetsSaid : Prop := treeGetsRow.holds Try.pinned (OpenSpec.ofChange treeGetsSpec)

/-- ITS FALSE NEIGHBOUR: 'it returns false'. Refute it at one input. -/
def treeGetsWrong : ChangeSpec := { name := "treeGets", fn := fun _ => fun
  | [d1, d2] => { results := [.lit (.bool false)], args := [d1, d2] }
  | _ => none }
def TreeGetsWrongFalsely : Prop := treeGetsRow.holds Try.pinned (OpenSpec.ofChange treeGetsWrong)

/-- 'cascadelaw03.TreeWith': WHATEVER THE INPUT: true; the input reads as it did. -/
def treeWithSpec : ChangeSpec := { name := "treeWith", fn := fun _ => fun
  | [d1, d2, d3] => { results := [.lit (.bool true)], args := [d1, d2, d3] }
  | _ => none }
def treeWithRow : OpenClaim := { program := "ytmdlcalnncncjaa", sum := "c7055cf1943718551de52fad48cac8a118b4b820b98aa50c921bbcde9f260039", func := "cascade/cascadelaw03.TreeWith", spec := "treeWith", unfollowed := true, recurses := true, loops := true, apart := false }
def TreeWithSaid : Prop := treeWithRow.holds Try.pinned (OpenSpec.ofChange treeWithSpec)

/-- ITS FALSE NEIGHBOUR: 'it returns false'. Refute it at one input. -/
def treeWithWrong : ChangeSpec := { name := "treeWith", fn := fun _ => fun
  | [d1, d2, d3] => { results := [.lit (.bool false)], args := [d1, d2, d3] }
  | _ => none }
def TreeWithWrongFalsely : Prop := treeWithRow.holds Try.pinned (OpenSpec.ofChange treeWithWrong)

/-- 'cascadelaw03.TreeOrders': WHATEVER THE INPUT: true; the input reads as it did. -/
def treeOrdersSpec : ChangeSpec := { name := "treeOrders", fn := fun _ => fun
  | [d1, d2] => { results := [.lit (.bool true)], args := [d1, d2] }
  | _ => none }
def treeOrdersRow : OpenClaim := { program := "ytmdlcalnncncjaa", sum := "c7055cf1943718551de52fad48cac8a118b4b820b98aa50c921bbcde9f260039", func := "cascade/cascadelaw03.TreeOrders", spec := "treeOrders", unfollowed := true, recurses := true, loops := true, apart := false }
def TreeOrdersSaid : Prop := treeOrdersRow.holds Try.pinned (OpenSpec.ofChange treeOrdersSpec)

/-- ITS FALSE NEIGHBOUR: 'it returns false'. Refute it at one input. -/
def treeOrdersWrong : ChangeSpec := { name := "treeOrders", fn := fun _ => fun
  | [d1, d2] => { results := [.lit (.bool false)], args := [d1, d2] }
  | _ => none }
def TreeOrdersWrongFalsely : Prop := treeOrdersRow.holds Try.pinned (OpenSpec.ofChange treeOrdersWrong)

/-- 'cascadelaw03.TreeOwn': WHATEVER THE INPUT: true; the input reads as it did. -/
def treeOwnSpec : ChangeSpec := { name := "treeOwn", fn := fun _ => fun
  | [d1, d2] => { results := [.lit (.bool true)], args := [d1, d2] }
  | _ => none }
def treeOwnRow : OpenClaim := { program := "ytmdlcalnncncjaa", sum := "c7055cf1943718551de52fad48cac8a118b4b820b98aa50c921bbcde9f260039", func := "cascade/cascadelaw03.TreeOwn", spec := "treeOwn", unfollowed := true, recurses := true, loops := true, apart := false }
def TreeOwnSaid : Prop := treeOwnRow.holds Try.pinned (OpenSpec.ofChange treeOwnSpec)

/-- ITS FALSE NEIGHBOUR: 'it returns false'. Refute it at one input. -/
def treeOwnWrong : ChangeSpec := { name := "treeOwn", fn := fun _ => fun
  | [d1, d2] => { results := [.lit (.bool false)], args := [d1, d2] }
  | _ => none }
def TreeOwnWrongFalsely : Prop := treeOwnRow.holds Try.pinned (OpenSpec.ofChange treeOwnWrong)

/-- 'cascadelaw06.PathRight': WHATEVER THE INPUT: true; the input reads as it did. -/
def pathRightSpec : ChangeSpec := { name := "pathRight", fn := fun _ => fun
  | [d] => { results := [.lit (.bool true)], args := [d] }
  | _ => none }
def pathRightRow : OpenClaim := { program := "ytmdlcalnncncjaa", sum := "c7055cf1943718551de52fad48cac8a118b4b820b98aa50c921bbcde9f260039", func := "cascade/cascadelaw06.PathRight", spec := "pathRight", unfollowed := true, recurses := true, apart := false }
def PathRightSaid : Prop := pathRightRow.holds Try.pinned (OpenSpec.ofChange pathRightSpec)

/-- ITS FALSE NEIGHBOUR: 'it returns false'. Refute it at one input. -/
def pathRightWrong : ChangeSpec := { name := "pathRight", fn := fun _ => fun
  | [d] => { results := [.lit (.bool false)], args := [d] }
  | _ => none }
def PathRightWrongFalsely : Prop := pathRightRow.holds Try.pinned (OpenSpec.ofChange pathRightWrong)

/-- 'cascadelaw06.PathOf': WHATEVER THE INPUT: true; the input reads as it did. -/
def pathOfSpec : ChangeSpec := { name := "pathOf", fn := fun _ => fun
  | [d] => { results := [.lit (.bool true)], args := [d] }
  | _ => none }
def pathOfRow : OpenClaim := { program := "ytmdlcalnncncjaa", sum := "c7055cf1943718551de52fad48cac8a118b4b820b98aa50c921bbcde9f260039", func := "cascade/cascadelaw06.PathOf", spec := "pathOf", unfollowed := true, recurses := true, loops := true, apart := false }
def PathOfSaid : Prop := pathOfRow.holds Try.pinned (OpenSpec.ofChange pathOfSpec)

/-- ITS FALSE NEIGHBOUR: 'it returns false'. Refute it at one input. -/
def pathOfWrong : ChangeSpec := { name := "pathOf", fn := fun _ => fun
  | [d] => { results := [.lit (.bool false)], args := [d] }
  | _ => none }
def PathOfWrongFalsely : Prop := pathOfRow.holds Try.pinned (OpenSpec.ofChange pathOfWrong)

/-- 'cascadelaw06.PathFinds': WHATEVER THE INPUT: true; the input reads as it did. -/
def pathFindsSpec : ChangeSpec := { name := "pathFinds", fn := fun _ => fun
  | [d1, d2] => { results := [.lit (.bool true)], args := [d1, d2] }
  | _ => none }
def pathFindsRow : OpenClaim := { program := "ytmdlcalnncncjaa", sum := "c7055cf1943718551de52fad48cac8a118b4b820b98aa50c921bbcde9f260039", func := "cascade/cascadelaw06.PathFinds", spec := "pathFinds", unfollowed := true, recurses := true, loops := true, apart := false }
def PathFindsSaid : Prop := pathFindsRow.holds Try.pinned (OpenSpec.ofChange pathFindsSpec)

/-- ITS FALSE NEIGHBOUR: 'it returns false'. Refute it at one input. -/
def pathFindsWrong : ChangeSpec := { name := "pathFinds", fn := fun _ => fun
  | [d1, d2] => { results := [.lit (.bool false)], args := [d1, d2] }
  | _ => none }
def PathFindsWrongFalsely : Prop := pathFindsRow.holds Try.pinned (OpenSpec.ofChange pathFindsWrong)

/-- 'cascadelaw06.PathPuts': WHATEVER THE INPUT: true; the input reads as it did. -/
def pathPutsSpec : ChangeSpec := { name := "pathPuts", fn := fun _ => fun
  | [d1, d2, d3] => { results := [.lit (.bool true)], args := [d1, d2, d3] }
  | _ => none }
def pathPutsRow : OpenClaim := { program := "ytmdlcalnncncjaa", sum := "c7055cf1943718551de52fad48cac8a118b4b820b98aa50c921bbcde9f260039", func := "cascade/cascadelaw06.PathPuts", spec := "pathPuts", unfollowed := true, recurses := true, loops := true, apart := false }
def PathPutsSaid : Prop := pathPutsRow.holds Try.pinned (OpenSpec.ofChange pathPutsSpec)

/-- ITS FALSE NEIGHBOUR: 'it returns false'. Refute it at one input. -/
def pathPutsWrong : ChangeSpec := { name := "pathPuts", fn := fun _ => fun
  | [d1, d2, d3] => { results := [.lit (.bool false)], args := [d1, d2, d3] }
  | _ => none }
def PathPutsWrongFalsely : Prop := pathPutsRow.holds Try.pinned (OpenSpec.ofChange pathPutsWrong)

/-- 'cascadelaw06.PathKeeps': WHATEVER THE INPUT: true; the input reads as it did. -/
def pathKeepsSpec : ChangeSpec := { name := "pathKeeps", fn := fun _ => fun
  | [d1, d2, d3] => { results := [.lit (.bool true)], args := [d1, d2, d3] }
  | _ => none }
def pathKeepsRow : OpenClaim := { program := "ytmdlcalnncncjaa", sum := "c7055cf1943718551de52fad48cac8a118b4b820b98aa50c921bbcde9f260039", func := "cascade/cascadelaw06.PathKeeps", spec := "pathKeeps", unfollowed := true, recurses := true, loops := true, apart := false }
def PathKeepsSaid : Prop := pathKeepsRow.holds Try.pinned (OpenSpec.ofChange pathKeepsSpec)

/-- ITS FALSE NEIGHBOUR: 'it returns false'. Refute it at one input. -/
def pathKeepsWrong : ChangeSpec := { name := "pathKeeps", fn := fun _ => fun
  | [d1, d2, d3] => { results := [.lit (.bool false)], args := [d1, d2, d3] }
  | _ => none }
def PathKeepsWrongFalsely : Prop := pathKeepsRow.holds Try.pinned (OpenSpec.ofChange pathKeepsWrong)

/-- 'cascadelaw06.PathMerges': WHATEVER THE INPUT: true; the input reads as it did. -/
def pathMergesSpec : ChangeSpec := { name := "pathMerges", fn := fun _ => fun
  | [d1, d2, d3] => { results := [.lit (.bool true)], args := [d1, d2, d3] }
  | _ => none }
def pathMergesRow : OpenClaim := { program := "ytmdlcalnncncjaa", sum := "c7055cf1943718551de52fad48cac8a118b4b820b98aa50c921bbcde9f260039", func := "cascade/cascadelaw06.PathMerges", spec := "pathMerges", unfollowed := true, recurses := true, loops := true, apart := false }
def PathMergesSaid : Prop := pathMergesRow.holds Try.pinned (OpenSpec.ofChange pathMergesSpec)

/-- ITS FALSE NEIGHBOUR: 'it returns false'. Refute it at one input. -/
def pathMergesWrong : ChangeSpec := { name := "pathMerges", fn := fun _ => fun
  | [d1, d2, d3] => { results := [.lit (.bool false)], args := [d1, d2, d3] }
  | _ => none }
def PathMergesWrongFalsely : Prop := pathMergesRow.holds Try.pinned (OpenSpec.ofChange pathMergesWrong)

/-- 'cascadelaw06.PathAdds': WHATEVER THE INPUT: true; the input reads as it did. -/
def pathAddsSpec : ChangeSpec := { name := "pathAdds", fn := fun _ => fun
  | [d1, d2, d3] => { results := [.lit (.bool true)], args := [d1, d2, d3] }
  | _ => none }
def pathAddsRow : OpenClaim := { program := "ytmdlcalnncncjaa", sum := "c7055cf1943718551de52fad48cac8a118b4b820b98aa50c921bbcde9f260039", func := "cascade/cascadelaw06.PathAdds", spec := "pathAdds", unfollowed := true, recurses := true, loops := true, apart := false }
def PathAddsSaid : Prop := pathAddsRow.holds Try.pinned (OpenSpec.ofChange pathAddsSpec)

/-- ITS FALSE NEIGHBOUR: 'it returns false'. Refute it at one input. -/
def pathAddsWrong : ChangeSpec := { name := "pathAdds", fn := fun _ => fun
  | [d1, d2, d3] => { results := [.lit (.bool false)], args := [d1, d2, d3] }
  | _ => none }
def PathAddsWrongFalsely : Prop := pathAddsRow.holds Try.pinned (OpenSpec.ofChange pathAddsWrong)

/-- 'cascadelaw06.PathThird': WHATEVER THE INPUT: true; the input reads as it did. -/
def pathThirdSpec : ChangeSpec := { name := "pathThird", fn := fun _ => fun
  | [d1, d2, d3] => { results := [.lit (.bool true)], args := [d1, d2, d3] }
  | _ => none }
def pathThirdRow : OpenClaim := { program := "ytmdlcalnncncjaa", sum := "c7055cf1943718551de52fad48cac8a118b4b820b98aa50c921bbcde9f260039", func := "cascade/cascadelaw06.PathThird", spec := "pathThird", unfollowed := true, recurses := true, apart := false }
def PathThirdSaid : Prop := pathThirdRow.holds Try.pinned (OpenSpec.ofChange pathThirdSpec)

/-- ITS FALSE NEIGHBOUR: 'it returns false'. Refute it at one input. -/
def pathThirdWrong : ChangeSpec := { name := "pathThird", fn := fun _ => fun
  | [d1, d2, d3] => { results := [.lit (.bool false)], args := [d1, d2, d3] }
  | _ => none }
def PathThirdWrongFalsely : Prop := pathThirdRow.holds Try.pinned (OpenSpec.ofChange pathThirdWrong)

/- THE SECOND FORM. 'bulk': how many values and letters a reading holds, each counted each time it is reached (what is shared counts as often as it is met; a slice's spare places count too). A statement '..UptoSaid' is the law's where the arguments, and the package variables that the reading takes, are together of bulk at most 1048576: NARROWER than '..Said'. Prove '..Said' where nothing that the law and all that it calls make is longer than what came in: it says more and counts as full. Else prove '..UptoSaid'. A law counts once. -/
mutual
def uptoBulk {H : Type} : DataW H → Nat
  | .lit (.string bytes) => bytes.length + 1
  | .lit _ => 1
  | .nil => 1
  | .ptr d => uptoBulk d + 1
  | .slice elems spare => uptoBulkAll elems + uptoBulkAll spare + 1
  | .agg parts => uptoBulkAll parts + 1
  | .iface _ d => uptoBulk d + 1
  | .map entries => uptoBulkEntries entries + 1
  | .held _ => 1
def uptoBulkAll {H : Type} : List (DataW H) → Nat
  | [] => 0
  | d :: r => uptoBulk d + uptoBulkAll r
def uptoBulkEntries {H : Type} : List (Lit × DataW H) → Nat
  | [] => 0
  | x :: r => uptoBulkEntry x + uptoBulkEntries r
def uptoBulkEntry {H : Type} : Lit × DataW H → Nat
  | (.string bytes, d) => bytes.length + uptoBulk d + 1
  | (_, d) => uptoBulk d + 1
 end
def uptoSmall : (H : Type) → List (DataW H) → Bool := fun _ ds => decide (uptoBulkAll ds ≤ 1048576)
def OpenSpec.upto (s : _root_.Go.ChangeSpec) : _root_.Go.OpenSpec := { _root_.Go.OpenSpec.ofChange s with cond := some uptoSmall }

/-- 'cascadelaw03.TreeRight', WHERE WHAT IT READS IS OF BULK AT MOST 1048576: true; the input reads as it did. -/
def treeRightUptoRow : OpenClaim := { program := "ytmdlcalnncncjaa", sum := "c7055cf1943718551de52fad48cac8a118b4b820b98aa50c921bbcde9f260039", func := "cascade/cascadelaw03.TreeRight", spec := "treeRight", unfollowed := true, recurses := true, loops := true, apart := false, narrowed := true }
def TreeRightUptoSaid : Prop := treeRightUptoRow.holds Try.pinned (OpenSpec.upto treeRightSpec)

/-- 'cascadelaw03.TreeSame', WHERE WHAT IT READS IS OF BULK AT MOST 1048576: true; the input reads as it did. -/
def treeSameUptoRow : OpenClaim := { program := "ytmdlcalnncncjaa", sum := "c7055cf1943718551de52fad48cac8a118b4b820b98aa50c921bbcde9f260039", func := "cascade/cascadelaw03.TreeSame", spec := "treeSame", unfollowed := true, recurses := true, loops := true, apart := false, narrowed := true }
def TreeSameUptoSaid : Prop := treeSameUptoRow.holds Try.pinned (OpenSpec.upto treeSameSpec)

/-- 'cascadelaw03.TreeGets', WHERE WHAT IT READS IS OF BULK AT MOST 1048576: true; the input reads as it did. -/
def treeGetsUptoRow : OpenClaim := { program := "ytmdlcalnncncjaa", sum := "c7055cf1943718551de52fad48cac8a118b4b820b98aa50c921bbcde9f260039", func := "cascade/cascadelaw03.TreeGets", spec := "treeGets", unfollowed := true, recurses := true, loops := true, apart := false, narrowed := true }
def TreeGetsUptoSaid : Prop := treeGetsUptoRow.holds Try.pinned (OpenSpec.upto treeGetsSpec)

/-- 'cascadelaw03.TreeWith', WHERE WHAT IT READS IS OF BULK AT MOST 1048576: true; the input reads as it did. -/
def treeWithUptoRow : OpenClaim := { program := "ytmdlcalnncncjaa", sum := "c7055cf1943718551de52fad48cac8a118b4b820b98aa50c921bbcde9f260039", func := "cascade/cascadelaw03.TreeWith", spec := "treeWith", unfollowed := true, recurses := true, loops := true, apart := false, narrowed := true }
def TreeWithUptoSaid : Prop := treeWithUptoRow.holds Try.pinned (OpenSpec.upto treeWithSpec)

/-- 'cascadelaw03.TreeOrders', WHERE WHAT IT READS IS OF BULK AT MOST 1048576: true; the input reads as it did. -/
def treeOrdersUptoRow : OpenClaim := { program := "ytmdlcalnncncjaa", sum := "c7055cf1943718551de52fad48cac8a118b4b820b98aa50c921bbcde9f260039", func := "cascade/cascadelaw03.TreeOrders", spec := "treeOrders", unfollowed := true, recurses := true, loops := true, apart := false, narrowed := true }
def TreeOrdersUptoSaid : Prop := treeOrdersUptoRow.holds Try.pinned (OpenSpec.upto treeOrdersSpec)

/-- 'cascadelaw03.TreeOwn', WHERE WHAT IT READS IS OF BULK AT MOST 1048576: true; the input reads as it did. -/
def treeOwnUptoRow : OpenClaim := { program := "ytmdlcalnncncjaa", sum := "c7055cf1943718551de52fad48cac8a118b4b820b98aa50c921bbcde9f260039", func := "cascade/cascadelaw03.TreeOwn", spec := "treeOwn", unfollowed := true, recurses := true, loops := true, apart := false, narrowed := true }
def TreeOwnUptoSaid : Prop := treeOwnUptoRow.holds Try.pinned (OpenSpec.upto treeOwnSpec)

/-- 'cascadelaw06.PathRight', WHERE WHAT IT READS IS OF BULK AT MOST 1048576: true; the input reads as it did. -/
def pathRightUptoRow : OpenClaim := { program := "ytmdlcalnncncjaa", sum := "c7055cf1943718551de52fad48cac8a118b4b820b98aa50c921bbcde9f260039", func := "cascade/cascadelaw06.PathRight", spec := "pathRight", unfollowed := true, recurses := true, apart := false, narrowed := true }
def PathRightUptoSaid : Prop := pathRightUptoRow.holds Try.pinned (OpenSpec.upto pathRightSpec)

/-- 'cascadelaw06.PathOf', WHERE WHAT IT READS IS OF BULK AT MOST 1048576: true; the input reads as it did. -/
def pathOfUptoRow : OpenClaim := { program := "ytmdlcalnncncjaa", sum := "c7055cf1943718551de52fad48cac8a118b4b820b98aa50c921bbcde9f260039", func := "cascade/cascadelaw06.PathOf", spec := "pathOf", unfollowed := true, recurses := true, loops := true, apart := false, narrowed := true }
def PathOfUptoSaid : Prop := pathOfUptoRow.holds Try.pinned (OpenSpec.upto pathOfSpec)

/-- 'cascadelaw06.PathFinds', WHERE WHAT IT READS IS OF BULK AT MOST 1048576: true; the input reads as it did. -/
def pathFindsUptoRow : OpenClaim := { program := "ytmdlcalnncncjaa", sum := "c7055cf1943718551de52fad48cac8a118b4b820b98aa50c921bbcde9f260039", func := "cascade/cascadelaw06.PathFinds", spec := "pathFinds", unfollowed := true, recurses := true, loops := true, apart := false, narrowed := true }
def PathFindsUptoSaid : Prop := pathFindsUptoRow.holds Try.pinned (OpenSpec.upto pathFindsSpec)

/-- 'cascadelaw06.PathPuts', WHERE WHAT IT READS IS OF BULK AT MOST 1048576: true; the input reads as it did. -/
def pathPutsUptoRow : OpenClaim := { program := "ytmdlcalnncncjaa", sum := "c7055cf1943718551de52fad48cac8a118b4b820b98aa50c921bbcde9f260039", func := "cascade/cascadelaw06.PathPuts", spec := "pathPuts", unfollowed := true, recurses := true, loops := true, apart := false, narrowed := true }
def PathPutsUptoSaid : Prop := pathPutsUptoRow.holds Try.pinned (OpenSpec.upto pathPutsSpec)

/-- 'cascadelaw06.PathKeeps', WHERE WHAT IT READS IS OF BULK AT MOST 1048576: true; the input reads as it did. -/
def pathKeepsUptoRow : OpenClaim := { program := "ytmdlcalnncncjaa", sum := "c7055cf1943718551de52fad48cac8a118b4b820b98aa50c921bbcde9f260039", func := "cascade/cascadelaw06.PathKeeps", spec := "pathKeeps", unfollowed := true, recurses := true, loops := true, apart := false, narrowed := true }
def PathKeepsUptoSaid : Prop := pathKeepsUptoRow.holds Try.pinned (OpenSpec.upto pathKeepsSpec)

/-- 'cascadelaw06.PathMerges', WHERE WHAT IT READS IS OF BULK AT MOST 1048576: true; the input reads as it did. -/
def pathMergesUptoRow : OpenClaim := { program := "ytmdlcalnncncjaa", sum := "c7055cf1943718551de52fad48cac8a118b4b820b98aa50c921bbcde9f260039", func := "cascade/cascadelaw06.PathMerges", spec := "pathMerges", unfollowed := true, recurses := true, loops := true, apart := false, narrowed := true }
def PathMergesUptoSaid : Prop := pathMergesUptoRow.holds Try.pinned (OpenSpec.upto pathMergesSpec)

/-- 'cascadelaw06.PathAdds', WHERE WHAT IT READS IS OF BULK AT MOST 1048576: true; the input reads as it did. -/
def pathAddsUptoRow : OpenClaim := { program := "ytmdlcalnncncjaa", sum := "c7055cf1943718551de52fad48cac8a118b4b820b98aa50c921bbcde9f260039", func := "cascade/cascadelaw06.PathAdds", spec := "pathAdds", unfollowed := true, recurses := true, loops := true, apart := false, narrowed := true }
def PathAddsUptoSaid : Prop := pathAddsUptoRow.holds Try.pinned (OpenSpec.upto pathAddsSpec)

/-- 'cascadelaw06.PathThird', WHERE WHAT IT READS IS OF BULK AT MOST 1048576: true; the input reads as it did. -/
def pathThirdUptoRow : OpenClaim := { program := "ytmdlcalnncncjaa", sum := "c7055cf1943718551de52fad48cac8a118b4b820b98aa50c921bbcde9f260039", func := "cascade/cascadelaw06.PathThird", spec := "pathThird", unfollowed := true, recurses := true, apart := false, narrowed := true }
def PathThirdUptoSaid : Prop := pathThirdUptoRow.holds Try.pinned (OpenSpec.upto pathThirdSpec)

end Rows
end Go.Proofs.Ytmdlcalnncncjaa
