/- QuoteBack (P2.3): what is quoted is read, whatever stands behind it. The walk. -/
import Derived.Test.YtmkenjelcmpghaaDoorQBoth
import Derived.Test.YtmkenjelcmpghaaDoorQMath
set_option linter.unusedVariables false
set_option linter.unusedSimpArgs false
namespace Go.Proofs.YtmkenjelcmpghaaDoor.QuoteBack
open Go.RowKit
def ends (W : World) (e : Ending) (W' : World) : Prop := e = .returned (.bool true) ∧ Below W.heap.size W W'
set_option maxHeartbeats 1000000 in
theorem walk_long1 (W : World) (hT : Both W) (s t : ByteArray) (hs : s.size ≤ maxLen) (hl : 200 < s.size) : Calls Tryd.prog 5 #[.string s, .string t] W (ends W) := by
  unfold maxLen at hs
  have HT := Lib.hid hT
  clear hT
  go_enter Tryd.func5, Tryd.ntmps5
  go_wp2_with fail
  refine (awake_any _ HT.out.1).mono ?_
  rintro e w1 ⟨rfl, hb1⟩
  go_wp2_with fail
  refine (awake_any _ (HT.out.go hb1).1).mono ?_
  rintro e w2 ⟨rfl, hb2⟩
  go_wp2_with fail
  go_ret
  exact ⟨rfl, hb1.trans (hb2.mono hb1.size)⟩
set_option maxHeartbeats 1000000 in
theorem walk_long2 (W : World) (hT : Both W) (s t : ByteArray) (hs : s.size ≤ 200) (ht : t.size ≤ maxLen) (hl : 200 < t.size) : Calls Tryd.prog 5 #[.string s, .string t] W (ends W) := by
  unfold maxLen at ht
  have HT := Lib.hid hT
  clear hT
  go_enter Tryd.func5, Tryd.ntmps5
  go_wp2_with fail
  refine (awake_any _ HT.out.1).mono ?_
  rintro e w1 ⟨rfl, hb1⟩
  go_wp2_with fail
  refine (awake_any _ (HT.out.go hb1).1).mono ?_
  rintro e w2 ⟨rfl, hb2⟩
  go_wp2_with fail
  go_ret
  exact ⟨rfl, hb1.trans (hb2.mono hb1.size)⟩
set_option maxHeartbeats 1000000 in
theorem walk_no (W : World) (hT : Both W) (s t : ByteArray) (hs : s.size ≤ 200) (ht : t.size ≤ 200) (hr : rightB s = false) : Calls Tryd.prog 5 #[.string s, .string t] W (ends W) := by
  have HT := Lib.hid hT
  have HR := Lib.hid hr
  clear hT hr
  go_enter Tryd.func5, Tryd.ntmps5
  go_wp2_with fail
  refine (awake_any _ HT.out.1).mono ?_
  rintro e w1 ⟨rfl, hb1⟩
  go_wp2_with fail
  refine (right_ref s (by omega) _).mono ?_
  rw [HR.out]
  rintro e w' ⟨rfl, rfl⟩
  go_wp2_with fail
  refine (awake_any _ (HT.out.go hb1).1).mono ?_
  rintro e w2 ⟨rfl, hb2⟩
  go_wp2_with fail
  go_ret
  exact ⟨rfl, hb1.trans (hb2.mono hb1.size)⟩
theorem back_eq (s t : ByteArray) (hr : rightB s = true) : unqE (quoteB s ++ t) = .returned (.tuple #[.string s, .int .i64 (quoteB s).size, .int .i64 0]) := by
  have h := unq_quote s (quoteB s ++ t) t.data.toList hr (by rw [Joins.data_append]; simp [quoteB])
  have hz : (qL s.data.toList).length = (quoteB s).size := by rw [quoteB_size]; simp [qL]
  rw [unqE_is _ _ _ _ h, hz]
  rfl
set_option maxHeartbeats 1000000 in
theorem main_any (W : World) (hT : Both W) (s t A : ByteArray) (hs : s.size ≤ 200) (ht : t.size ≤ 200) (hA : A.size ≤ 1202) (HR : Hid (rightB s = true))
    (kA : Hid (∀ w, Tab16 w → Calls Tryd.prog 9 #[.string s] w fun e w' => e = .returned (.tuple #[.string A, .int .i64 0]) ∧ Below w.heap.size w w'))
    (kU : Hid (∀ w, ErrV w → Calls Tryd.prog 12 #[.string (A ++ t)] w fun e w' => e = .returned (.tuple #[.string s, .int .i64 A.size, .int .i64 0]) ∧ Below w.heap.size w w')) :
    Calls Tryd.prog 5 #[.string s, .string t] W (ends W) := by
  have HT := Lib.hid hT
  have dS : decide ((200 : Int) < (s.size : Int)) = false := by simp; omega
  have dT : decide ((200 : Int) < (t.size : Int)) = false := by simp; omega
  clear hT
  go_enter Tryd.func5, Tryd.ntmps5
  go_wp2_with fail
  refine (awake_any _ HT.out.1).mono ?_
  rintro e w1 ⟨rfl, hb1⟩
  go_wp2_with fail
  refine (right_ref s (by omega) _).mono ?_
  rw [HR.out]
  rintro e w' ⟨rfl, rfl⟩
  go_wp2_with fail
  refine (kA.out _ (HT.out.go hb1).1).mono ?_
  rintro e w2 ⟨rfl, hb2⟩
  go_wp2_with fail
  refine (kU.out _ ((HT.out.go hb1).go hb2).2).mono ?_
  rintro e w3 ⟨rfl, hb3⟩
  go_wp2_with fail
  go_ret
  exact ⟨rfl, hb1.trans ((hb2.mono hb1.size).trans (hb3.mono (Nat.le_trans hb1.size hb2.size)))⟩
theorem walk_main (W : World) (hT : Both W) (s t : ByteArray) (hs : s.size ≤ 200) (ht : t.size ≤ 200) (hr : rightB s = true) : Calls Tryd.prog 5 #[.string s, .string t] W (ends W) := by
  have hz : (quoteB s).size ≤ 1202 := by
    have := (qIn_len s.data.toList).2; rw [quoteB_size]; rw [← Lib.size_eq] at this; omega
  have hz2 : (quoteB s ++ t).size ≤ 1048576 := by rw [ByteArray.size_append]; omega
  refine main_any W hT s t (quoteB s) hs ht hz (Lib.hid hr) (Lib.hid fun w h => quote_yes s (by omega) hr w h) (Lib.hid fun w h => ?_)
  have k := unq_any (quoteB s ++ t) hz2 w h
  rw [back_eq s t hr] at k
  exact k
theorem walk (W : World) (hT : Both W) (s : ByteArray) (hs : s.size ≤ maxLen) (t : ByteArray) (ht : t.size ≤ maxLen) : Calls Tryd.prog 5 #[.string s, .string t] W fun e W' => e = .returned (.bool true) ∧ Below W.heap.size W W' := by
  show Calls _ _ _ _ (ends W)
  by_cases h1 : 200 < s.size
  · exact walk_long1 W hT s t hs h1
  by_cases h2 : 200 < t.size
  · exact walk_long2 W hT s t (by omega) ht h2
  cases hr : rightB s
  · exact walk_no W hT s t (by omega) (by omega) hr
  · exact walk_main W hT s t (by omega) (by omega) hr
end Go.Proofs.YtmkenjelcmpghaaDoor.QuoteBack
