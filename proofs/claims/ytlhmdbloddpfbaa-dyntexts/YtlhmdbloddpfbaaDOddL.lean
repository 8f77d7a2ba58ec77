/- dyn.oddOf of a list. -/
import Derived.Test.YtlhmdbloddpfbaaDOddA
import Derived.Deep.OwnRows
set_option linter.unusedVariables false
set_option linter.unusedSimpArgs false
namespace Go.Proofs.Ytlhmdbloddpfbaa
open Go.RowKit
theorem infoP : (Try.prog.info? 82).map (fun i => (i.zero, i.size, i.bytes)) = some (some (.pointer none), 1, 8) := by kernel_rfl
theorem infoI : (Try.prog.info? 20).map (fun i => (i.zero, i.size, i.bytes)) = some (some .nilIface, 1, 16) := by kernel_rfl
/-- Where the elements of a list stand. -/
def ptrL (A : Option Addr) (i : Nat) : Value := .pointer (A.map fun ad => ad.add (i * 5))
def ptrUp (A : Option Addr) (i j : Nat) : Value := if j < i then ptrL A j else .pointer none
/-- What oddOf answers of a list. -/
def OddL (n : Nat) (A : Option Addr) (w : World) (e : Ending) (w' : World) : Prop := ∃ g I, e = .returned (.tuple #[.iface 85 (.slice (some ⟨g, 0, none⟩) n n), .slice (some ⟨I, 0, none⟩) n n]) ∧ g ≠ I ∧ w.heap.size ≤ g ∧ w.heap.size ≤ I ∧ w'.rowIs g 20 n (fun _ => .nilIface) ∧ w'.rowIs I 82 n (ptrL A) ∧ Below w.heap.size w w'
set_option maxHeartbeats 1000000 in
set_option maxRecDepth 100000 in
theorem odd_4 (n c : Nat) (A : Option Addr) (q : Addr) (w : World) (hn : n ≤ 1000) (hA : 0 < n → ∃ ad, A = some ad) (h0 : w.cell? q = some (.int .i64 4)) (h3 : w.cell? ⟨q.block, q.off + 3, none⟩ = some (.slice A n c)) :
    Calls Try.prog 72 #[.pointer (some q)] w fun e w' => OddL n A w e w' := by
  have hq : q.block < w.heap.size := World.block_lt_of_cell? w _ h0
  have hmk := run_make_row' (P := Try.prog) 109 82 (.pointer none) 8 Try.underlying109 infoP rfl .i64 .i64 n (by omega) (by omega)
  have hmg := run_make_row' (P := Try.prog) 85 20 .nilIface 16 Try.underlying85 infoI rfl .i64 .i64 n (by omega) (by omega)
  have h3' : (w.alloc (.cells (madeCells #[.pointer none] n) 82)).cell? ⟨q.block, q.off + 3, none⟩ = some (.slice A n c) := (World.cell?_alloc_past _ _ _ hq).trans h3
  go_enter Try.func72, Try.ntmps72
  go_wp2_with fail
  go_loopw [49] (fun iv wr => ∃ (i : Nat), iv = .int .i64 i ∧ i ≤ n ∧ wr.rowIs w.heap.size 82 n (ptrUp A i) ∧ Below w.heap.size w wr) (fun iv _ => n - (intOf iv).toNat)
  case atStart => exact ⟨0, rfl, Nat.zero_le _, (World.rowIs_made _ _ _ _).congr (fun i hi => by simp [ptrUp]), (Below.refl _ _).alloc (Nat.le_refl _) _⟩
  case round =>
    obtain ⟨i, rfl, hi, hrow, hbel⟩ := hrel
    have HW := Lib.hid hrow
    have HB := Lib.hid hbel
    have hNl := hrow.lt
    have hl3 : wr.cell? ⟨q.block, q.off + 3, none⟩ = some (.slice A n c) := (hbel.cell (p := ⟨q.block, q.off + 3, none⟩) hq).trans h3
    clear hbel h3 h3' h0
    by_cases hlt : i < n
    · obtain ⟨ad, rfl⟩ := hA (by omega)
      have hcc := hrow.cell hlt
      have hfz := hrow.frozen i
      clear hrow
      go_wp2_with fail
      refine ⟨⟨i + 1, by go_num, by omega, (HW.out.set i _).congr (fun j hj => ?_), HB.out.setCell (Nat.le_refl _) _⟩, by simp [intOf]; omega⟩
      unfold ptrUp
      by_cases e : j = i
      · subst e
        simp [ptrL]
      · simp only [e, if_false]
        by_cases e2 : j < i
        · rw [if_pos e2, if_pos (by omega)]
        · rw [if_neg e2, if_neg (by omega)]
    · clear hrow
      go_wp2_with fail
      go_ret2
      refine ⟨wr.heap.size, w.heap.size, rfl, by omega, by omega, Nat.le_refl _, World.rowIs_made _ _ _ _, ?_, HB.out.alloc (by omega) _⟩
      have hr := HW.out.congr (g := ptrL A) (fun j hj => by unfold ptrUp; rw [if_pos (by omega)])
      exact rowIs_below' (B := 0) hr (Below.heap_alloc _ _ _ hNl)
end Go.Proofs.Ytlhmdbloddpfbaa
