/-
  DERIVED. GIVEN WITH THE SEED: THE CARDS: each row of YtbpmjpbgdfjhiaaDoorRows.lean that lists a variable, with what it lists TIED to the program's text (the seventh form; the later family's looks); each row that meets fmt, with fmt's text TOLD by the authors' own Lean function (tested against real Go, not proved from fmt's source: count such statements apart). THE CARD IS WHAT COUNTS. Prove the row's statement (the work); the ties are given (YtbpmjpbgdfjhiaaDoorTie.lean); close each card by the builder's one call (the guide's Derived/Test/ToyasCard.lean, 'card_holds'). Laid BY PROGRAM, IN A SANDBOX (cutbox-door.mjs). By AI agents, Wed Nov 11 2026. No macro, syntax, notation, axiom, sorry.
-/
import Derived.Test.YtbpmjpbgdfjhiaaDoorRows
import GoSem.ClaimSeven
namespace Go.Proofs.YtbpmjpbgdfjhiaaDoor
namespace Rows

/-- THE TIED CARD OF 'cascadelaw07.BlockIndents'. -/
def blockIndentsCard : Claim7 := { stood := { row := blockIndentsRow, standIns := [], harness := (true, "77c582347b8385c6d4dbd528c716ae7eeb835a24231b13b4df9b141ceb33487c"), looks := false }, kinds := [], alts := [], laidByText := true, laidKinds := [.data, .pinned], laidTests := true, laidLooks := .later }
def BlockIndentsCardSaid : Prop := Claim7.holds Tryd.pinned (.plain (OpenSpec.ofChange blockIndentsSpec)) blockIndentsCard

/-- THE TIED CARD OF 'cascadelaw07.BlockValues'. -/
def blockValuesCard : Claim7 := { stood := { row := blockValuesRow, standIns := [], harness := (true, "77c582347b8385c6d4dbd528c716ae7eeb835a24231b13b4df9b141ceb33487c"), looks := false }, kinds := [], alts := [], laidByText := true, laidKinds := [.data, .pinned], laidTests := true, laidLooks := .later }
def BlockValuesCardSaid : Prop := Claim7.holds Tryd.pinned (.plain (OpenSpec.ofChange blockValuesSpec)) blockValuesCard

/-- THE TIED CARD OF 'cascadelaw07.BlockRaws'. -/
def blockRawsCard : Claim7 := { stood := { row := blockRawsRow, standIns := [], harness := (true, "77c582347b8385c6d4dbd528c716ae7eeb835a24231b13b4df9b141ceb33487c"), looks := false }, kinds := [], alts := [], laidByText := true, laidKinds := [.data, .pinned], laidTests := true, laidLooks := .later }
def BlockRawsCardSaid : Prop := Claim7.holds Tryd.pinned (.plain (OpenSpec.ofChange blockRawsSpec)) blockRawsCard

/-- THE TIED CARD OF 'cascadelaw07.BlockClean'. -/
def blockCleanCard : Claim7 := { stood := { row := blockCleanRow, standIns := [], harness := (true, "77c582347b8385c6d4dbd528c716ae7eeb835a24231b13b4df9b141ceb33487c"), looks := false }, kinds := [], alts := [], laidByText := true, laidKinds := [.data, .pinned], laidTests := true, laidLooks := .later }
def BlockCleanCardSaid : Prop := Claim7.holds Tryd.pinned (.plain (OpenSpec.ofChange blockCleanSpec)) blockCleanCard

/-- THE SECOND FORM's CARD OF 'cascadelaw07.BlockIndents'. -/
def blockIndentsUptoCard : Claim7 := { stood := { row := blockIndentsUptoRow, standIns := [], harness := (true, "77c582347b8385c6d4dbd528c716ae7eeb835a24231b13b4df9b141ceb33487c"), looks := false }, kinds := [], alts := [], laidByText := true, laidKinds := [.data, .pinned], laidTests := true, laidLooks := .later }
def BlockIndentsUptoCardSaid : Prop := Claim7.holds Tryd.pinned (.plain (OpenSpec.upto blockIndentsSpec)) blockIndentsUptoCard

/-- THE SECOND FORM's CARD OF 'cascadelaw07.BlockValues'. -/
def blockValuesUptoCard : Claim7 := { stood := { row := blockValuesUptoRow, standIns := [], harness := (true, "77c582347b8385c6d4dbd528c716ae7eeb835a24231b13b4df9b141ceb33487c"), looks := false }, kinds := [], alts := [], laidByText := true, laidKinds := [.data, .pinned], laidTests := true, laidLooks := .later }
def BlockValuesUptoCardSaid : Prop := Claim7.holds Tryd.pinned (.plain (OpenSpec.upto blockValuesSpec)) blockValuesUptoCard

/-- THE SECOND FORM's CARD OF 'cascadelaw07.BlockRaws'. -/
def blockRawsUptoCard : Claim7 := { stood := { row := blockRawsUptoRow, standIns := [], harness := (true, "77c582347b8385c6d4dbd528c716ae7eeb835a24231b13b4df9b141ceb33487c"), looks := false }, kinds := [], alts := [], laidByText := true, laidKinds := [.data, .pinned], laidTests := true, laidLooks := .later }
def BlockRawsUptoCardSaid : Prop := Claim7.holds Tryd.pinned (.plain (OpenSpec.upto blockRawsSpec)) blockRawsUptoCard

/-- THE SECOND FORM's CARD OF 'cascadelaw07.BlockClean'. -/
def blockCleanUptoCard : Claim7 := { stood := { row := blockCleanUptoRow, standIns := [], harness := (true, "77c582347b8385c6d4dbd528c716ae7eeb835a24231b13b4df9b141ceb33487c"), looks := false }, kinds := [], alts := [], laidByText := true, laidKinds := [.data, .pinned], laidTests := true, laidLooks := .later }
def BlockCleanUptoCardSaid : Prop := Claim7.holds Tryd.pinned (.plain (OpenSpec.upto blockCleanSpec)) blockCleanUptoCard
end Rows
end Go.Proofs.YtbpmjpbgdfjhiaaDoor
