/-
  NARROWER THAN 'FOR EVERY INPUT', by the rows' own cells (each row's printed sentence says how): BlockIndents: laid · BlockValues: laid · BlockRaws: laid · BlockClean: laid.
  DERIVED. THE GIVEN ROWS OF THIS SEAT. 4 by the template 'for every input the law returns true; each argument reads behind the call as it read before'; 0 by the template 'total and deterministic' (their statements: YtbpmjpbgdfjhiaaDoorTotals.lean).
  GIVEN WITH THE SEED: the statements are not yours to turn. If you find one false, say at which input.
  Laid BY PROGRAM, IN A SANDBOX (cutbox-rows.mjs): the forced cells as the released guide's own fill.sh prints them over the translation 8c18e0e816d0e3c1… (all of the seat's roots in one cut). By AI agents, Wed Nov 11 2026. No macro, syntax, notation, axiom, sorry.
-/
import Derived.Test.YtbpmjpbgdfjhiaaDoorChecked
import GoSem.PinnedTables
import GoSem.Claim
import GoSem.ClaimJoined
import GoSem.ClaimMapViews
import Derived.JoinedTies
import Derived.KernelRfl
namespace Go.Proofs.YtbpmjpbgdfjhiaaDoor
/- THE CELL 'sum', in the pinned program and in every row, IS THE sha256 OF THE DUMP (.gsa) THAT YtbpmjpbgdfjhiaaDoorProg.lean LOADS. Nothing in Lean hashes anything: it is a label: what it is worth is what the hold of that sum in a sandbox is worth. -/
noncomputable def Tryd.pinned : Pinned := { name := "ytbpmjpbgdfjhiaadoor", sum := "8c18e0e816d0e3c1833e5d99ea0b8ea99ce204d1579a058b7606e99d97c48af2", checked := Tryd.checked }
namespace Rows
def none {H : Type} : Left H := { results := [], args := [] }

/- WHAT THE LISTED PACKAGE-LEVEL VARIABLES READ AS WHEN THE CALL BEGINS. Each datum BY PROGRAM (the guide's laid-datum.mjs) off the statement by which the dump's own 'gosem.cut.vars' lays the variable. In a bare row this is a premise. The card (YtbpmjpbgdfjhiaaDoorCards.lean) ties it to the program's text. -/
def laid_unicode_utf8_acceptRanges {H : Type} : DataW H := .agg [.agg [.lit (.int .u8 128), .lit (.int .u8 191)], .agg [.lit (.int .u8 160), .lit (.int .u8 191)], .agg [.lit (.int .u8 128), .lit (.int .u8 159)], .agg [.lit (.int .u8 144), .lit (.int .u8 191)], .agg [.lit (.int .u8 128), .lit (.int .u8 143)], .agg [.lit (.int .u8 0), .lit (.int .u8 0)], .agg [.lit (.int .u8 0), .lit (.int .u8 0)], .agg [.lit (.int .u8 0), .lit (.int .u8 0)], .agg [.lit (.int .u8 0), .lit (.int .u8 0)], .agg [.lit (.int .u8 0), .lit (.int .u8 0)], .agg [.lit (.int .u8 0), .lit (.int .u8 0)], .agg [.lit (.int .u8 0), .lit (.int .u8 0)], .agg [.lit (.int .u8 0), .lit (.int .u8 0)], .agg [.lit (.int .u8 0), .lit (.int .u8 0)], .agg [.lit (.int .u8 0), .lit (.int .u8 0)], .agg [.lit (.int .u8 0), .lit (.int .u8 0)]]
/-- One of Go's own tables, pinned by name: the form's constant. -/
def laid_unicode_utf8_first : DataW Unit := Go.Pinned.utf8First

/-- 'cascadelaw07.BlockIndents': WHATEVER THE INPUT: true; the input reads as it did. -/
def blockIndentsSpec : ChangeSpec := { name := "blockIndents", fn := fun _ => fun
  | [d] => { results := [.lit (.bool true)], args := [d] }
  | _ => none }
def blockIndentsRow : OpenClaim := { program := "ytbpmjpbgdfjhiaadoor", sum := "8c18e0e816d0e3c1833e5d99ea0b8ea99ce204d1579a058b7606e99d97c48af2", func := "cascade/cascadelaw07.BlockIndents", spec := "blockIndents", inPlace := ["internal/bytealg.IndexByteString", "internal/bytealg.IndexString", "internal/abi.NoEscape", "internal/bytealg.MakeNoZero"], named := ["internal/bytealg.MaxLen", "unicode/utf8.first", "unicode/utf8.acceptRanges"], apart := false, laid := [("unicode/utf8.acceptRanges", laid_unicode_utf8_acceptRanges), ("unicode/utf8.first", laid_unicode_utf8_first)] }
def BlockIndentsSaid : Prop := blockIndentsRow.holds Tryd.pinned (OpenSpec.ofChange blockIndentsSpec)

/-- ITS FALSE NEIGHBOUR: 'it returns false'. Refute it at one input. -/
def blockIndentsWrong : ChangeSpec := { name := "blockIndents", fn := fun _ => fun
  | [d] => { results := [.lit (.bool false)], args := [d] }
  | _ => none }
def BlockIndentsWrongFalsely : Prop := blockIndentsRow.holds Tryd.pinned (OpenSpec.ofChange blockIndentsWrong)

/-- 'cascadelaw07.BlockValues': WHATEVER THE INPUT: true; the input reads as it did. -/
def blockValuesSpec : ChangeSpec := { name := "blockValues", fn := fun _ => fun
  | [d] => { results := [.lit (.bool true)], args := [d] }
  | _ => none }
def blockValuesRow : OpenClaim := { program := "ytbpmjpbgdfjhiaadoor", sum := "8c18e0e816d0e3c1833e5d99ea0b8ea99ce204d1579a058b7606e99d97c48af2", func := "cascade/cascadelaw07.BlockValues", spec := "blockValues", inPlace := ["internal/bytealg.IndexByteString", "internal/bytealg.IndexString", "internal/abi.NoEscape", "internal/bytealg.MakeNoZero"], named := ["internal/bytealg.MaxLen", "unicode/utf8.first", "unicode/utf8.acceptRanges"], apart := false, laid := [("unicode/utf8.acceptRanges", laid_unicode_utf8_acceptRanges), ("unicode/utf8.first", laid_unicode_utf8_first)] }
def BlockValuesSaid : Prop := blockValuesRow.holds Tryd.pinned (OpenSpec.ofChange blockValuesSpec)

/-- ITS FALSE NEIGHBOUR: 'it returns false'. Refute it at one input. -/
def blockValuesWrong : ChangeSpec := { name := "blockValues", fn := fun _ => fun
  | [d] => { results := [.lit (.bool false)], args := [d] }
  | _ => none }
def BlockValuesWrongFalsely : Prop := blockValuesRow.holds Tryd.pinned (OpenSpec.ofChange blockValuesWrong)

/-- 'cascadelaw07.BlockRaws': WHATEVER THE INPUT: true; the input reads as it did. -/
def blockRawsSpec : ChangeSpec := { name := "blockRaws", fn := fun _ => fun
  | [d] => { results := [.lit (.bool true)], args := [d] }
  | _ => none }
def blockRawsRow : OpenClaim := { program := "ytbpmjpbgdfjhiaadoor", sum := "8c18e0e816d0e3c1833e5d99ea0b8ea99ce204d1579a058b7606e99d97c48af2", func := "cascade/cascadelaw07.BlockRaws", spec := "blockRaws", inPlace := ["internal/bytealg.IndexByteString", "internal/bytealg.IndexString", "internal/abi.NoEscape", "internal/bytealg.MakeNoZero"], named := ["internal/bytealg.MaxLen", "unicode/utf8.first", "unicode/utf8.acceptRanges"], apart := false, laid := [("unicode/utf8.acceptRanges", laid_unicode_utf8_acceptRanges), ("unicode/utf8.first", laid_unicode_utf8_first)] }
def BlockRawsSaid : Prop := blockRawsRow.holds Tryd.pinned (OpenSpec.ofChange blockRawsSpec)

/-- ITS FALSE NEIGHBOUR: 'it returns false'. Refute it at one input. -/
def blockRawsWrong : ChangeSpec := { name := "blockRaws", fn := fun _ => fun
  | [d] => { results := [.lit (.bool false)], args := [d] }
  | _ => none }
def BlockRawsWrongFalsely : Prop := blockRawsRow.holds Tryd.pinned (OpenSpec.ofChange blockRawsWrong)

/-- 'cascadelaw07.BlockClean': WHATEVER THE INPUT: true; the input reads as it did. -/
def blockCleanSpec : ChangeSpec := { name := "blockClean", fn := fun _ => fun
  | [d1, d2] => { results := [.lit (.bool true)], args := [d1, d2] }
  | _ => none }
def blockCleanRow : OpenClaim := { program := "ytbpmjpbgdfjhiaadoor", sum := "8c18e0e816d0e3c1833e5d99ea0b8ea99ce204d1579a058b7606e99d97c48af2", func := "cascade/cascadelaw07.BlockClean", spec := "blockClean", inPlace := ["internal/bytealg.IndexByteString", "internal/bytealg.IndexString", "internal/abi.NoEscape", "internal/bytealg.MakeNoZero"], named := ["internal/bytealg.MaxLen", "unicode/utf8.first", "unicode/utf8.acceptRanges"], apart := false, laid := [("unicode/utf8.acceptRanges", laid_unicode_utf8_acceptRanges), ("unicode/utf8.first", laid_unicode_utf8_first)] }
def BlockCleanSaid : Prop := blockCleanRow.holds Tryd.pinned (OpenSpec.ofChange blockCleanSpec)

/-- ITS FALSE NEIGHBOUR: 'it returns false'. Refute it at one input. -/
def blockCleanWrong : ChangeSpec := { name := "blockClean", fn := fun _ => fun
  | [d1, d2] => { results := [.lit (.bool false)], args := [d1, d2] }
  | _ => none }
def BlockCleanWrongFalsely : Prop := blockCleanRow.holds Tryd.pinned (OpenSpec.ofChange blockCleanWrong)

/- THE SECOND FORM. 'bulk': how many values and letters a reading holds, each counted each time it is reached (what is shared counts as often as it is met; a slice's spare places count too). A statement '..UptoSaid' is the law's where the arguments, and the package variables that the reading takes, are together of bulk at most 1048576: NARROWER than '..Said'. Prove '..Said' where nothing that the law and all that it calls make is longer than what came in: it says more and counts as full. Else prove '..UptoSaid'. A law counts once. -/
mutual
def uptoBulk {H : Type} : DataW H → Nat
  | .lit (.string bytes) => bytes.length + 1
  | .lit _ => 1
  | .nil => 1
  | .ptr d => uptoBulk d + 1
  | .slice elems spare => uptoBulkAll elems + uptoBulkAll spare + 1
  | .agg parts => uptoBulkAll parts + 1
  | .iface _ d => uptoBulk d + 1
  | .map entries => uptoBulkEntries entries + 1
  | .held _ => 1
def uptoBulkAll {H : Type} : List (DataW H) → Nat
  | [] => 0
  | d :: r => uptoBulk d + uptoBulkAll r
def uptoBulkEntries {H : Type} : List (Lit × DataW H) → Nat
  | [] => 0
  | x :: r => uptoBulkEntry x + uptoBulkEntries r
def uptoBulkEntry {H : Type} : Lit × DataW H → Nat
  | (.string bytes, d) => bytes.length + uptoBulk d + 1
  | (_, d) => uptoBulk d + 1
 end
def uptoSmall : (H : Type) → List (DataW H) → Bool := fun _ ds => decide (uptoBulkAll ds ≤ 1048576)
def OpenSpec.upto (s : _root_.Go.ChangeSpec) : _root_.Go.OpenSpec := { _root_.Go.OpenSpec.ofChange s with cond := some uptoSmall }

/-- 'cascadelaw07.BlockIndents', WHERE WHAT IT READS IS OF BULK AT MOST 1048576: true; the input reads as it did. -/
def blockIndentsUptoRow : OpenClaim := { program := "ytbpmjpbgdfjhiaadoor", sum := "8c18e0e816d0e3c1833e5d99ea0b8ea99ce204d1579a058b7606e99d97c48af2", func := "cascade/cascadelaw07.BlockIndents", spec := "blockIndents", inPlace := ["internal/bytealg.IndexByteString", "internal/bytealg.IndexString", "internal/abi.NoEscape", "internal/bytealg.MakeNoZero"], named := ["internal/bytealg.MaxLen", "unicode/utf8.first", "unicode/utf8.acceptRanges"], apart := false, laid := [("unicode/utf8.acceptRanges", laid_unicode_utf8_acceptRanges), ("unicode/utf8.first", laid_unicode_utf8_first)], narrowed := true }
def BlockIndentsUptoSaid : Prop := blockIndentsUptoRow.holds Tryd.pinned (OpenSpec.upto blockIndentsSpec)

/-- 'cascadelaw07.BlockValues', WHERE WHAT IT READS IS OF BULK AT MOST 1048576: true; the input reads as it did. -/
def blockValuesUptoRow : OpenClaim := { program := "ytbpmjpbgdfjhiaadoor", sum := "8c18e0e816d0e3c1833e5d99ea0b8ea99ce204d1579a058b7606e99d97c48af2", func := "cascade/cascadelaw07.BlockValues", spec := "blockValues", inPlace := ["internal/bytealg.IndexByteString", "internal/bytealg.IndexString", "internal/abi.NoEscape", "internal/bytealg.MakeNoZero"], named := ["internal/bytealg.MaxLen", "unicode/utf8.first", "unicode/utf8.acceptRanges"], apart := false, laid := [("unicode/utf8.acceptRanges", laid_unicode_utf8_acceptRanges), ("unicode/utf8.first", laid_unicode_utf8_first)], narrowed := true }
def BlockValuesUptoSaid : Prop := blockValuesUptoRow.holds Tryd.pinned (OpenSpec.upto blockValuesSpec)

/-- 'cascadelaw07.BlockRaws', WHERE WHAT IT READS IS OF BULK AT MOST 1048576: true; the input reads as it did. -/
def blockRawsUptoRow : OpenClaim := { program := "ytbpmjpbgdfjhiaadoor", sum := "8c18e0e816d0e3c1833e5d99ea0b8ea99ce204d1579a058b7606e99d97c48af2", func := "cascade/cascadelaw07.BlockRaws", spec := "blockRaws", inPlace := ["internal/bytealg.IndexByteString", "internal/bytealg.IndexString", "internal/abi.NoEscape", "internal/bytealg.MakeNoZero"], named := ["internal/bytealg.MaxLen", "unicode/utf8.first", "unicode/utf8.acceptRanges"], apart := false, laid := [("unicode/utf8.acceptRanges", laid_unicode_utf8_acceptRanges), ("unicode/utf8.first", laid_unicode_utf8_first)], narrowed := true }
def BlockRawsUptoSaid : Prop := blockRawsUptoRow.holds Tryd.pinned (OpenSpec.upto blockRawsSpec)

/-- 'cascadelaw07.BlockClean', WHERE WHAT IT READS IS OF BULK AT MOST 1048576: true; the input reads as it did. -/
def blockCleanUptoRow : OpenClaim := { program := "ytbpmjpbgdfjhiaadoor", sum := "8c18e0e816d0e3c1833e5d99ea0b8ea99ce204d1579a058b7606e99d97c48af2", func := "cascade/cascadelaw07.BlockClean", spec := "blockClean", inPlace := ["internal/bytealg.IndexByteString", "internal/bytealg.IndexString", "internal/abi.NoEscape", "internal/bytealg.MakeNoZero"], named := ["internal/bytealg.MaxLen", "unicode/utf8.first", "unicode/utf8.acceptRanges"], apart := false, laid := [("unicode/utf8.acceptRanges", laid_unicode_utf8_acceptRanges), ("unicode/utf8.first", laid_unicode_utf8_first)], narrowed := true }
def BlockCleanUptoSaid : Prop := blockCleanUptoRow.holds Tryd.pinned (OpenSpec.upto blockCleanSpec)

end Rows
end Go.Proofs.YtbpmjpbgdfjhiaaDoor
