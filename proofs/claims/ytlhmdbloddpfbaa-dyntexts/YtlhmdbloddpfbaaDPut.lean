/- dyn.put, walked. -/
import Derived.Test.YtlhmdbloddpfbaaDLo
set_option linter.unusedVariables false
set_option linter.unusedSimpArgs false
namespace Go.Proofs.Ytlhmdbloddpfbaa
open Go.RowKit
/-- An interface's value. -/
def IsI (x : Value) : Prop := x = .nilIface ∨ ∃ t v, x = .iface t v
theorem Ls.isI {w : World} {S : Nat → Prop} {a : Va} {x : Value} (h : Ls w S a x) : IsI x := by
  cases h <;> first | exact .inl rfl | exact .inr ⟨_, _, rfl⟩
set_option maxHeartbeats 1000000 in
set_option maxRecDepth 100000 in
theorem put_list (g n i : Nat) (x old : Value) (w : World) (hx : IsI x) (hi : i < n) (hn : n ≤ 1000) (hc : w.cell? ⟨g, i, none⟩ = some old) (hf : w.frozen? ⟨g, i, none⟩ = false) :
    Calls Try.prog 73 #[.iface 85 (.slice (some ⟨g, 0, none⟩) n n), .int .i64 i, x] w fun e w' => e = .returned (.iface 85 (.slice (some ⟨g, 0, none⟩) n n)) ∧ w' = w.setCell ⟨g, i, none⟩ x := by
  rcases hx with rfl | ⟨t, v, rfl⟩
  · go_enter Try.func73, Try.ntmps73
    go_wp2
    go_ret
    exact ⟨rfl, rfl⟩
  · go_enter Try.func73, Try.ntmps73
    go_wp2
    go_ret
    exact ⟨rfl, rfl⟩
set_option maxHeartbeats 1000000 in
set_option maxRecDepth 100000 in
theorem put_obj (g n i : Nat) (x old : Value) (w : World) (hx : IsI x) (hi : i < n) (hn : n ≤ 1000) (hc : w.cell? ⟨g, i * 2 + 1, none⟩ = some old) (hf : w.frozen? ⟨g, i * 2 + 1, none⟩ = false) :
    Calls Try.prog 73 #[.iface 87 (.slice (some ⟨g, 0, none⟩) n n), .int .i64 i, x] w fun e w' => e = .returned (.iface 87 (.slice (some ⟨g, 0, none⟩) n n)) ∧ w' = w.setCell ⟨g, i * 2 + 1, none⟩ x := by
  rcases hx with rfl | ⟨t, v, rfl⟩
  · go_enter Try.func73, Try.ntmps73
    go_wp2
    go_ret
    exact ⟨rfl, rfl⟩
  · go_enter Try.func73, Try.ntmps73
    go_wp2
    go_ret
    exact ⟨rfl, rfl⟩
end Go.Proofs.Ytlhmdbloddpfbaa
