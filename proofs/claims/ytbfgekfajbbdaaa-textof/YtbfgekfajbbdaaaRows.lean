/-
  No cell of these rows narrows 'for every input' (looked for: loops, veiled, ifaces, maps, wideKeys, modest, calm, conditions, laid).
  DERIVED. THE GIVEN ROWS OF THIS SEAT. 6 by the template 'for every input the law returns true; each argument reads behind the call as it read before'; 0 by the template 'total and deterministic' (their statements: YtbfgekfajbbdaaaTotals.lean).
  GIVEN WITH THE SEED: the statements are not yours to turn. If you find one false, say at which input.
  Laid BY PROGRAM, IN A SANDBOX (cutbox-rows.mjs): the forced cells as the released guide's own fill.sh prints them over the translation 276ccf6b34bfe9d3… (all of the seat's roots in one cut). By AI agents, Wed Nov 11 2026. No macro, syntax, notation, axiom, sorry.
-/
import Derived.Test.YtbfgekfajbbdaaaChecked
import GoSem.Claim
import GoSem.ClaimJoined
import GoSem.ClaimMapViews
import Derived.JoinedTies
import Derived.KernelRfl
namespace Go.Proofs.Ytbfgekfajbbdaaa
/- THE CELL 'sum', in the pinned program and in every row, IS THE sha256 OF THE DUMP (.gsa) THAT YtbfgekfajbbdaaaProg.lean LOADS. Nothing in Lean hashes anything: it is a label: what it is worth is what the hold of that sum in a sandbox is worth. -/
noncomputable def Try.pinned : Pinned := { name := "ytbfgekfajbbdaaa", sum := "276ccf6b34bfe9d33219122ab5cb159abf569f08428fbe21478b689a1c5afbc0", checked := Try.checked }
namespace Rows
def none {H : Type} : Left H := { results := [], args := [] }

/-- 'cascadelaw01.TextRight': WHATEVER THE INPUT: true; the input reads as it did. -/
def textRightSpec : ChangeSpec := { name := "textRight", fn := fun _ => fun
  | [d] => { results := [.lit (.bool true)], args := [d] }
  | _ => none }
def textRightRow : OpenClaim := { program := "ytbfgekfajbbdaaa", sum := "276ccf6b34bfe9d33219122ab5cb159abf569f08428fbe21478b689a1c5afbc0", func := "cascade/cascadelaw01.TextRight", spec := "textRight", apart := false }
def TextRightSaid : Prop := textRightRow.holds Try.pinned (OpenSpec.ofChange textRightSpec)

/-- ITS FALSE NEIGHBOUR: 'it returns false'. Refute it at one input. -/
def textRightWrong : ChangeSpec := { name := "textRight", fn := fun _ => fun
  | [d] => { results := [.lit (.bool false)], args := [d] }
  | _ => none }
def TextRightWrongFalsely : Prop := textRightRow.holds Try.pinned (OpenSpec.ofChange textRightWrong)

/-- 'cascadelaw01.TextOf': WHATEVER THE INPUT: true; the input reads as it did. -/
def textOfSpec : ChangeSpec := { name := "textOf", fn := fun _ => fun
  | [d] => { results := [.lit (.bool true)], args := [d] }
  | _ => none }
def textOfRow : OpenClaim := { program := "ytbfgekfajbbdaaa", sum := "276ccf6b34bfe9d33219122ab5cb159abf569f08428fbe21478b689a1c5afbc0", func := "cascade/cascadelaw01.TextOf", spec := "textOf", inPlace := ["internal/abi.NoEscape"], apart := false }
def TextOfSaid : Prop := textOfRow.holds Try.pinned (OpenSpec.ofChange textOfSpec)

/-- ITS FALSE NEIGHBOUR: 'it returns false'. Refute it at one input. -/
def textOfWrong : ChangeSpec := { name := "textOf", fn := fun _ => fun
  | [d] => { results := [.lit (.bool false)], args := [d] }
  | _ => none }
def TextOfWrongFalsely : Prop := textOfRow.holds Try.pinned (OpenSpec.ofChange textOfWrong)

/-- 'cascadelaw01.TextBack': WHATEVER THE INPUT: true; the input reads as it did. -/
def textBackSpec : ChangeSpec := { name := "textBack", fn := fun _ => fun
  | [d] => { results := [.lit (.bool true)], args := [d] }
  | _ => none }
def textBackRow : OpenClaim := { program := "ytbfgekfajbbdaaa", sum := "276ccf6b34bfe9d33219122ab5cb159abf569f08428fbe21478b689a1c5afbc0", func := "cascade/cascadelaw01.TextBack", spec := "textBack", inPlace := ["internal/abi.NoEscape"], apart := false }
def TextBackSaid : Prop := textBackRow.holds Try.pinned (OpenSpec.ofChange textBackSpec)

/-- ITS FALSE NEIGHBOUR: 'it returns false'. Refute it at one input. -/
def textBackWrong : ChangeSpec := { name := "textBack", fn := fun _ => fun
  | [d] => { results := [.lit (.bool false)], args := [d] }
  | _ => none }
def TextBackWrongFalsely : Prop := textBackRow.holds Try.pinned (OpenSpec.ofChange textBackWrong)

/-- 'cascadelaw01.TextNames': WHATEVER THE INPUT: true; the input reads as it did. -/
def textNamesSpec : ChangeSpec := { name := "textNames", fn := fun _ => fun
  | [d] => { results := [.lit (.bool true)], args := [d] }
  | _ => none }
def textNamesRow : OpenClaim := { program := "ytbfgekfajbbdaaa", sum := "276ccf6b34bfe9d33219122ab5cb159abf569f08428fbe21478b689a1c5afbc0", func := "cascade/cascadelaw01.TextNames", spec := "textNames", apart := false }
def TextNamesSaid : Prop := textNamesRow.holds Try.pinned (OpenSpec.ofChange textNamesSpec)

/-- ITS FALSE NEIGHBOUR: 'it returns false'. Refute it at one input. -/
def textNamesWrong : ChangeSpec := { name := "textNames", fn := fun _ => fun
  | [d] => { results := [.lit (.bool false)], args := [d] }
  | _ => none }
def TextNamesWrongFalsely : Prop := textNamesRow.holds Try.pinned (OpenSpec.ofChange textNamesWrong)

/-- 'cascadelaw01.TextLines': WHATEVER THE INPUT: true; the input reads as it did. -/
def textLinesSpec : ChangeSpec := { name := "textLines", fn := fun _ => fun
  | [d] => { results := [.lit (.bool true)], args := [d] }
  | _ => none }
def textLinesRow : OpenClaim := { program := "ytbfgekfajbbdaaa", sum := "276ccf6b34bfe9d33219122ab5cb159abf569f08428fbe21478b689a1c5afbc0", func := "cascade/cascadelaw01.TextLines", spec := "textLines", apart := false }
def TextLinesSaid : Prop := textLinesRow.holds Try.pinned (OpenSpec.ofChange textLinesSpec)

/-- ITS FALSE NEIGHBOUR: 'it returns false'. Refute it at one input. -/
def textLinesWrong : ChangeSpec := { name := "textLines", fn := fun _ => fun
  | [d] => { results := [.lit (.bool false)], args := [d] }
  | _ => none }
def TextLinesWrongFalsely : Prop := textLinesRow.holds Try.pinned (OpenSpec.ofChange textLinesWrong)

/-- 'cascadelaw01.TextEnds': WHATEVER THE INPUT: true; the input reads as it did. -/
def textEndsSpec : ChangeSpec := { name := "textEnds", fn := fun _ => fun
  | [d1, d2] => { results := [.lit (.bool true)], args := [d1, d2] }
  | _ => none }
def textEndsRow : OpenClaim := { program := "ytbfgekfajbbdaaa", sum := "276ccf6b34bfe9d33219122ab5cb159abf569f08428fbe21478b689a1c5afbc0", func := "cascade/cascadelaw01.TextEnds", spec := "textEnds", apart := false }
def TextEndsSaid : Prop := textEndsRow.holds Try.pinned (OpenSpec.ofChange textEndsSpec)

/-- ITS FALSE NEIGHBOUR: 'it returns false'. Refute it at one input. -/
def textEndsWrong : ChangeSpec := { name := "textEnds", fn := fun _ => fun
  | [d1, d2] => { results := [.lit (.bool false)], args := [d1, d2] }
  | _ => none }
def TextEndsWrongFalsely : Prop := textEndsRow.holds Try.pinned (OpenSpec.ofChange textEndsWrong)

/- THE SECOND FORM. 'bulk': how many values and letters a reading holds, each counted each time it is reached (what is shared counts as often as it is met; a slice's spare places count too). A statement '..UptoSaid' is the law's where the arguments, and the package variables that the reading takes, are together of bulk at most 1048576: NARROWER than '..Said'. Prove '..Said' where nothing that the law and all that it calls make is longer than what came in: it says more and counts as full. Else prove '..UptoSaid'. A law counts once. -/
mutual
def uptoBulk {H : Type} : DataW H → Nat
  | .lit (.string bytes) => bytes.length + 1
  | .lit _ => 1
  | .nil => 1
  | .ptr d => uptoBulk d + 1
  | .slice elems spare => uptoBulkAll elems + uptoBulkAll spare + 1
  | .agg parts => uptoBulkAll parts + 1
  | .iface _ d => uptoBulk d + 1
  | .map entries => uptoBulkEntries entries + 1
  | .held _ => 1
def uptoBulkAll {H : Type} : List (DataW H) → Nat
  | [] => 0
  | d :: r => uptoBulk d + uptoBulkAll r
def uptoBulkEntries {H : Type} : List (Lit × DataW H) → Nat
  | [] => 0
  | x :: r => uptoBulkEntry x + uptoBulkEntries r
def uptoBulkEntry {H : Type} : Lit × DataW H → Nat
  | (.string bytes, d) => bytes.length + uptoBulk d + 1
  | (_, d) => uptoBulk d + 1
 end
def uptoSmall : (H : Type) → List (DataW H) → Bool := fun _ ds => decide (uptoBulkAll ds ≤ 1048576)
def OpenSpec.upto (s : _root_.Go.ChangeSpec) : _root_.Go.OpenSpec := { _root_.Go.OpenSpec.ofChange s with cond := some uptoSmall }

/-- 'cascadelaw01.TextRight', WHERE WHAT IT READS IS OF BULK AT MOST 1048576: true; the input reads as it did. -/
def textRightUptoRow : OpenClaim := { program := "ytbfgekfajbbdaaa", sum := "276ccf6b34bfe9d33219122ab5cb159abf569f08428fbe21478b689a1c5afbc0", func := "cascade/cascadelaw01.TextRight", spec := "textRight", apart := false, narrowed := true }
def TextRightUptoSaid : Prop := textRightUptoRow.holds Try.pinned (OpenSpec.upto textRightSpec)

/-- 'cascadelaw01.TextOf', WHERE WHAT IT READS IS OF BULK AT MOST 1048576: true; the input reads as it did. -/
def textOfUptoRow : OpenClaim := { program := "ytbfgekfajbbdaaa", sum := "276ccf6b34bfe9d33219122ab5cb159abf569f08428fbe21478b689a1c5afbc0", func := "cascade/cascadelaw01.TextOf", spec := "textOf", inPlace := ["internal/abi.NoEscape"], apart := false, narrowed := true }
def TextOfUptoSaid : Prop := textOfUptoRow.holds Try.pinned (OpenSpec.upto textOfSpec)

/-- 'cascadelaw01.TextBack', WHERE WHAT IT READS IS OF BULK AT MOST 1048576: true; the input reads as it did. -/
def textBackUptoRow : OpenClaim := { program := "ytbfgekfajbbdaaa", sum := "276ccf6b34bfe9d33219122ab5cb159abf569f08428fbe21478b689a1c5afbc0", func := "cascade/cascadelaw01.TextBack", spec := "textBack", inPlace := ["internal/abi.NoEscape"], apart := false, narrowed := true }
def TextBackUptoSaid : Prop := textBackUptoRow.holds Try.pinned (OpenSpec.upto textBackSpec)

/-- 'cascadelaw01.TextNames', WHERE WHAT IT READS IS OF BULK AT MOST 1048576: true; the input reads as it did. -/
def textNamesUptoRow : OpenClaim := { program := "ytbfgekfajbbdaaa", sum := "276ccf6b34bfe9d33219122ab5cb159abf569f08428fbe21478b689a1c5afbc0", func := "cascade/cascadelaw01.TextNames", spec := "textNames", apart := false, narrowed := true }
def TextNamesUptoSaid : Prop := textNamesUptoRow.holds Try.pinned (OpenSpec.upto textNamesSpec)

/-- 'cascadelaw01.TextLines', WHERE WHAT IT READS IS OF BULK AT MOST 1048576: true; the input reads as it did. -/
def textLinesUptoRow : OpenClaim := { program := "ytbfgekfajbbdaaa", sum := "276ccf6b34bfe9d33219122ab5cb159abf569f08428fbe21478b689a1c5afbc0", func := "cascade/cascadelaw01.TextLines", spec := "textLines", apart := false, narrowed := true }
def TextLinesUptoSaid : Prop := textLinesUptoRow.holds Try.pinned (OpenSpec.upto textLinesSpec)

/-- 'cascadelaw01.TextEnds', WHERE WHAT IT READS IS OF BULK AT MOST 1048576: true; the input reads as it did. -/
def textEndsUptoRow : OpenClaim := { program := "ytbfgekfajbbdaaa", sum := "276ccf6b34bfe9d33219122ab5cb159abf569f08428fbe21478b689a1c5afbc0", func := "cascade/cascadelaw01.TextEnds", spec := "textEnds", apart := false, narrowed := true }
def TextEndsUptoSaid : Prop := textEndsUptoRow.holds Try.pinned (OpenSpec.upto textEndsSpec)

end Rows
end Go.Proofs.Ytbfgekfajbbdaaa
