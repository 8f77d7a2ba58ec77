/- A region that draws its order, whose operations only read, and whose callees keep what there was. -/
import Derived.Test.YtbinmhcjadkmgaaDoorBase
import Derived.Deep.QuietTactic
set_option linter.unusedVariables false
set_option linter.unusedSimpArgs false
namespace Go.Proofs.YtbinmhcjadkmgaaDoor
open Go.RowKit
/-- A world in which all is kept. -/
structure BlwBy (w : World) where
  now : World
  bel : Below w.heap.size w now
instance (w : World) : Inhabited (BlwBy w) := ⟨⟨w, Below.refl _ _⟩⟩
theorem wp_quiet_below {id : Nat} {Q : Exit → Act → World → Prop} {a : Act} {w : World} {l : List Oper} (hm : Tryd.prog.follows .mixedOrders = true) (hB : Region.lexB .any l.toArray = true)
    (h : wpQuiet Tryd.prog l.toArray (fun w' => ∃ p : BlwBy w, w' = p.now) (fun a' => ∀ w', (∃ p : BlwBy w, w' = p.now) → Q .normal a' w') l a) : (Code.region id l.toArray true).wp Tryd.prog Q a w :=
  wp_region_quiet (C := fun w' => ∃ p : BlwBy w, w' = p.now) hm hB ⟨⟨w.drew, (Below.refl _ _).drew⟩, rfl⟩ (by simpa using h)
theorem Calls.below_of {f : FuncId} {args : Array Value} {w : World} {p : BlwBy w} {v : Value}
    (h : Calls Tryd.prog f args p.now fun e w' => e = .returned v ∧ Below p.now.heap.size p.now w') : Calls Tryd.prog f args p.now fun e w'' => e = .returned v ∧ ∃ q : BlwBy w, w'' = q.now :=
  h.mono fun _ w2 ⟨he, hb⟩ => ⟨he, ⟨w2, p.bel.trans (hb.mono p.bel.size)⟩, rfl⟩
theorem BlwBy.cell {w : World} {b o : Nat} {v : Value} (hb : b < w.heap.size) (h : w.cell? ⟨b, o, none⟩ = some v) (p : BlwBy w) : p.now.cell? ⟨b, o, none⟩ = some v := (p.bel.cell (p := ⟨b, o, none⟩) hb).trans h
theorem BlwBy.cellA {w : World} {a : Addr} {v : Value} (hb : a.block < w.heap.size) (h : w.cell? a = some v) (p : BlwBy w) : p.now.cell? a = some v := (p.bel.cell hb).trans h
end Go.Proofs.YtbinmhcjadkmgaaDoor
