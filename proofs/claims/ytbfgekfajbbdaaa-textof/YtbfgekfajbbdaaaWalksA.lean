import Derived.Test.YtbfgekfajbbdaaaRows
import Derived.Test.YtbfgekfajbbdaaaPlain
import Derived.WalkKit
import Derived.ProofKit
import Derived.OpenShut
import Derived.ShutString
import Derived.WalkSpells
import Derived.Lib.Hide
set_option linter.unusedVariables false
set_option linter.unusedSimpArgs false
namespace Go.Proofs.Ytbfgekfajbbdaaa
open Go.RowKit
theorem ret_bool {a b : Bool} (h : a = b) : Ending.returned (.bool a) = .returned (.bool b) := by rw [h]
theorem letter_any (r : Int) (w : World) : Calls Try.prog 30 #[.int .i32 r] w fun e w' => e = .returned (.bool (isL r)) ∧ w = w' := by
  go_enter Try.func30, Try.ntmps30
  go_wp2
  all_goals
    go_ret
    refine ⟨ret_bool ?_, rfl⟩
    unfold isL; rw [Bool.eq_iff_iff]; simp; omega
theorem digit_any (r : Int) (w : World) : Calls Try.prog 31 #[.int .i32 r] w fun e w' => e = .returned (.bool (isD r)) ∧ w = w' := by
  go_enter Try.func31, Try.ntmps31
  go_wp2
  all_goals
    go_ret
    refine ⟨ret_bool ?_, rfl⟩
    unfold isD; rw [Bool.eq_iff_iff]; simp; try omega
theorem letter_ref (r : Int) (w : World) : Calls Try.prog 32 #[.int .u8 r] w fun e w' => e = .returned (.bool (isL r)) ∧ w = w' := by
  go_enter Try.func32, Try.ntmps32
  go_wp2
  all_goals
    go_ret
    refine ⟨ret_bool ?_, rfl⟩
    unfold isL; rw [Bool.eq_iff_iff]; simp; omega
theorem digit_ref (r : Int) (w : World) : Calls Try.prog 33 #[.int .u8 r] w fun e w' => e = .returned (.bool (isD r)) ∧ w = w' := by
  go_enter Try.func33, Try.ntmps33
  go_wp2
  all_goals
    go_ret
    refine ⟨ret_bool ?_, rfl⟩
    unfold isD; rw [Bool.eq_iff_iff]; simp; try omega
set_option maxHeartbeats 400000 in
theorem name_any (s : ByteArray) (hs : s.size ≤ maxLen) (w : World) : Calls Try.prog 18 #[.string s] w fun e w' => e = .returned (.bool (nameB s)) ∧ Below w.heap.size w w' := by
  unfold maxLen at hs
  go_enter Try.func18, Try.ntmps18
  go_wp2
  go_loopw [] (fun w' => ∃ pos : Nat, w' = w.iter s pos ∧ nmFrom s pos = nmFrom s 0) (fun w' => s.size - w'.iterPos w.heap.size)
  case atStart => exact ⟨0, rfl, rfl⟩
  case round =>
    obtain ⟨pos, rfl, hc⟩ := hrel
    have HC := Lib.hid hc
    clear hc
    by_cases hp : pos < s.size
    · have hnx : ∀ ty, (Instr.next (.pointer (some ⟨w.heap.size, 0, none⟩)) true ty).run Try.prog (w.iter s pos) = _ := fun ty => run_next_any w s pos ty hp
      by_cases hL : isL ↑(Utf8.decode s pos).1 = true
      · go_wp2_with (go_at_call 30; refine (letter_any _ _).mono ?_; rintro e w' ⟨rfl, rfl⟩)
        obtain ⟨h1, h2⟩ := nm_yes s pos hp HC.out (by simp [nmAt, hL])
        exact ⟨⟨_, rfl, h2⟩, by simp [h1]; omega⟩
      · have hL' : isL ↑(Utf8.decode s pos).1 = false := by simpa using hL
        clear hL
        by_cases h0 : pos = 0
        · subst h0
          go_wp2_with (go_at_call 30; refine (letter_any _ _).mono ?_; rintro e w' ⟨rfl, rfl⟩)
          go_ret
          exact ⟨ret_bool (nm_no s 0 hp rfl (by simp [nmAt, hL'])).symm, (Below.refl _ _).alloc (Nat.le_refl _) _⟩
        · have hz : ((pos : Int) == 0) = false := by simp; omega
          by_cases hD : isD ↑(Utf8.decode s pos).1 = true
          · go_wp2_with (first | (go_at_call 30; refine (letter_any _ _).mono ?_; rintro e w' ⟨rfl, rfl⟩) | (go_at_call 31; refine (digit_any _ _).mono ?_; rintro e w' ⟨rfl, rfl⟩))
            obtain ⟨h1, h2⟩ := nm_yes s pos hp HC.out (by simp [nmAt, h0, hD])
            exact ⟨⟨_, rfl, h2⟩, by simp [h1]; omega⟩
          · have hD' : isD ↑(Utf8.decode s pos).1 = false := by simpa using hD
            clear hD
            go_wp2_with (first | (go_at_call 30; refine (letter_any _ _).mono ?_; rintro e w' ⟨rfl, rfl⟩) | (go_at_call 31; refine (digit_any _ _).mono ?_; rintro e w' ⟨rfl, rfl⟩))
            go_ret
            exact ⟨ret_bool (nm_no s pos hp HC.out (by simp [nmAt, hL', hD'])).symm, (Below.refl _ _).alloc (Nat.le_refl _) _⟩
    · have hnx : ∀ ty, (Instr.next (.pointer (some ⟨w.heap.size, 0, none⟩)) true ty).run Try.prog (w.iter s pos) = _ := fun ty => run_next_end w s pos ty hp
      go_wp2
      go_ret
      refine ⟨ret_bool ?_, (Below.refl _ _).alloc (Nat.le_refl _) _⟩
      rw [nm_end s pos hp HC.out]
      exact empty_iff s
set_option maxHeartbeats 400000 in
theorem name_ref (s : ByteArray) (hs : s.size ≤ maxLen) (w : World) : Calls Try.prog 19 #[.string s] w fun e w' => e = .returned (.bool (nameB s)) ∧ w = w' := by
  unfold maxLen at hs
  go_enter Try.func19, Try.ntmps19
  go_wp2
  go_loop [3] (fun i => ∃ k : Nat, k ≤ s.size ∧ i = .int .i64 k ∧ nmFrom s k = nmFrom s 0) (fun i => s.size - (intOf i).toNat)
  case atStart => exact ⟨0, Nat.zero_le _, rfl, rfl⟩
  case round =>
    obtain ⟨k, hk, rfl, hc⟩ := hrel
    have HC := Lib.hid hc
    clear hc
    by_cases hp : k < s.size
    · have hg : (s.get! k).toNat = s[k].toNat := by rw [get_bang s k hp]
      by_cases hL : isL ↑s[k].toNat = true
      · go_wp2_with (go_at_call 32; refine (letter_ref _ _).mono ?_; rintro e w' ⟨rfl, rfl⟩)
        go_round
        case rel => exact ⟨k + 1, by omega, by go_num, nmr_yes s k hp HC.out (by rw [hg]; simp [nmAt, hL])⟩
        case measure => simp [intOf]; omega
      · have hL' : isL ↑s[k].toNat = false := by simpa using hL
        clear hL
        by_cases h0 : k = 0
        · subst h0
          go_wp2_with (go_at_call 32; refine (letter_ref _ _).mono ?_; rintro e w' ⟨rfl, rfl⟩)
          go_ret
          exact ⟨ret_bool (nmr_no s 0 hp rfl (by rw [hg]; simp [nmAt, hL'])).symm, rfl⟩
        · have hz : ((k : Int) == 0) = false := by simp; omega
          by_cases hD : isD ↑s[k].toNat = true
          · go_wp2_with (first | (go_at_call 32; refine (letter_ref _ _).mono ?_; rintro e w' ⟨rfl, rfl⟩) | (go_at_call 33; refine (digit_ref _ _).mono ?_; rintro e w' ⟨rfl, rfl⟩))
            go_round
            case rel => exact ⟨k + 1, by omega, by go_num, nmr_yes s k hp HC.out (by rw [hg]; simp [nmAt, h0, hD])⟩
            case measure => simp [intOf]; omega
          · have hD' : isD ↑s[k].toNat = false := by simpa using hD
            clear hD
            go_wp2_with (first | (go_at_call 32; refine (letter_ref _ _).mono ?_; rintro e w' ⟨rfl, rfl⟩) | (go_at_call 33; refine (digit_ref _ _).mono ?_; rintro e w' ⟨rfl, rfl⟩))
            go_ret
            exact ⟨ret_bool (nmr_no s k hp HC.out (by rw [hg]; simp [nmAt, hL', hD'])).symm, rfl⟩
    · go_wp2
      go_ret
      refine ⟨ret_bool ?_, rfl⟩
      rw [nm_end s k hp HC.out]
      exact pos_iff s
end Go.Proofs.Ytbfgekfajbbdaaa
