/- QuoteReads (P2.2): whatever stands there: what is read at its beginning, and how far, are told, or the first error, and its place. The walk. -/
import Derived.Test.YtmkenjelcmpghaaDoorQBoth
import Derived.Test.YtmkenjelcmpghaaDoorURefB
set_option linter.unusedVariables false
set_option linter.unusedSimpArgs false
namespace Go.Proofs.YtmkenjelcmpghaaDoor
open Go.RowKit
theorem unqR_any (s : ByteArray) (hs : s.size ≤ 1048576) (w : World) : Calls Tryd.prog 13 #[.string s] w fun e w' => e = unqE s ∧ Below w.heap.size w w' := by
  by_cases h : 0 < s.size ∧ (s.get! 0).toNat = 34
  · exact unqR_some s hs h.1 h.2 w
  · exact unqR_none s hs h w
namespace QuoteReads
set_option maxHeartbeats 1000000 in
theorem walk_long (W : World) (hT : Both W) (s : ByteArray) (hs : s.size ≤ maxLen) (hl : 400 < s.size) : Calls Tryd.prog 4 #[.string s] W fun e W' => e = .returned (.bool true) ∧ Below W.heap.size W W' := by
  unfold maxLen at hs
  have HT := Lib.hid hT
  clear hT
  go_enter Tryd.func4, Tryd.ntmps4
  go_wp2_with fail
  refine (awake_any _ HT.out.1).mono ?_
  rintro e w1 ⟨rfl, hb1⟩
  go_wp2_with fail
  refine (awake_any _ (HT.out.go hb1).1).mono ?_
  rintro e w2 ⟨rfl, hb2⟩
  go_wp2_with fail
  go_ret
  exact ⟨rfl, hb1.trans (hb2.mono hb1.size)⟩
set_option maxHeartbeats 1000000 in
theorem walk_main (W : World) (hT : Both W) (s : ByteArray) (hl : s.size ≤ 400) : Calls Tryd.prog 4 #[.string s] W fun e W' => e = .returned (.bool true) ∧ Below W.heap.size W W' := by
  have HT := Lib.hid hT
  have HA := Lib.hid (fun w h => unq_any s (by omega) w h)
  have HR := Lib.hid (fun w => unqR_any s (by omega) w)
  clear hT
  unfold unqE at HA HR
  generalize unq s = P at *
  obtain ⟨A, b, c⟩ := P
  simp only at HA HR
  generalize (⟨A.toArray⟩ : ByteArray) = A' at *
  go_enter Tryd.func4, Tryd.ntmps4
  go_wp2_with fail
  refine (awake_any _ HT.out.1).mono ?_
  rintro e w1 ⟨rfl, hb1⟩
  go_wp2_with fail
  refine (HA.out _ (HT.out.go hb1).2).mono ?_
  rintro e w2 ⟨rfl, hb2⟩
  go_wp2_with fail
  refine (HR.out _).mono ?_
  rintro e w3 ⟨rfl, hb3⟩
  go_wp2_with fail
  go_ret
  exact ⟨rfl, hb1.trans ((hb2.mono hb1.size).trans (hb3.mono (Nat.le_trans hb1.size hb2.size)))⟩
theorem walk (W : World) (hT : Both W) (s : ByteArray) (hs : s.size ≤ maxLen) : Calls Tryd.prog 4 #[.string s] W fun e W' => e = .returned (.bool true) ∧ Below W.heap.size W W' := by
  by_cases hl : 400 < s.size
  · exact walk_long W hT s hs hl
  · exact walk_main W hT s (by omega)
end QuoteReads
end Go.Proofs.YtmkenjelcmpghaaDoor
