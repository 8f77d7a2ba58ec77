/- dyn.mark, number by number. -/
import Derived.Test.YtlhmdbloddpfbaaTLawA
set_option linter.unusedVariables false
namespace Go.Proofs.Ytlhmdbloddpfbaa
open Go.RowKit
set_option maxHeartbeats 400000 in
set_option maxRecDepth 100000 in
theorem len64_0 (w : World) : Calls Try.prog 118 #[.int .u64 0] w fun e w' => e = .returned (.int .i64 0) ∧ w' = w := by
  go_enter Try.func118, Try.ntmps118
  go_wp2
  go_ret
  exact ⟨by kernel_rfl, rfl⟩
theorem len_0 (w : World) : Calls Try.prog 103 #[.int .u64 0] w fun e w' => e = .returned (.int .i64 0) ∧ w' = w := by
  go_enter Try.func103, Try.ntmps103
  go_wp2_with (go_at_call 118; refine (len64_0 _).mono ?_; rintro e w' ⟨rfl, rfl⟩)
  go_ret
  exact ⟨rfl, rfl⟩
theorem mark_1 (w : World) : Calls Try.prog 97 #[.int .i64 1] w fun e w' => e = .returned (.int .i64 0) ∧ w' = w := by
  go_enter Try.func97, Try.ntmps97
  go_wp2_with (go_at_call 103; refine (len_0 _).mono ?_; rintro e w' ⟨rfl, rfl⟩)
  go_ret
  exact ⟨rfl, rfl⟩
set_option maxHeartbeats 400000 in
set_option maxRecDepth 100000 in
theorem len64_1 (w : World) : Calls Try.prog 118 #[.int .u64 1] w fun e w' => e = .returned (.int .i64 1) ∧ w' = w := by
  go_enter Try.func118, Try.ntmps118
  go_wp2
  go_ret
  exact ⟨by kernel_rfl, rfl⟩
theorem len_1 (w : World) : Calls Try.prog 103 #[.int .u64 1] w fun e w' => e = .returned (.int .i64 1) ∧ w' = w := by
  go_enter Try.func103, Try.ntmps103
  go_wp2_with (go_at_call 118; refine (len64_1 _).mono ?_; rintro e w' ⟨rfl, rfl⟩)
  go_ret
  exact ⟨rfl, rfl⟩
theorem mark_2 (w : World) : Calls Try.prog 97 #[.int .i64 2] w fun e w' => e = .returned (.int .i64 1) ∧ w' = w := by
  go_enter Try.func97, Try.ntmps97
  go_wp2_with (go_at_call 103; refine (len_1 _).mono ?_; rintro e w' ⟨rfl, rfl⟩)
  go_ret
  exact ⟨rfl, rfl⟩
set_option maxHeartbeats 400000 in
set_option maxRecDepth 100000 in
theorem len64_2 (w : World) : Calls Try.prog 118 #[.int .u64 2] w fun e w' => e = .returned (.int .i64 2) ∧ w' = w := by
  go_enter Try.func118, Try.ntmps118
  go_wp2
  go_ret
  exact ⟨by kernel_rfl, rfl⟩
theorem len_2 (w : World) : Calls Try.prog 103 #[.int .u64 2] w fun e w' => e = .returned (.int .i64 2) ∧ w' = w := by
  go_enter Try.func103, Try.ntmps103
  go_wp2_with (go_at_call 118; refine (len64_2 _).mono ?_; rintro e w' ⟨rfl, rfl⟩)
  go_ret
  exact ⟨rfl, rfl⟩
theorem mark_3 (w : World) : Calls Try.prog 97 #[.int .i64 3] w fun e w' => e = .returned (.int .i64 2) ∧ w' = w := by
  go_enter Try.func97, Try.ntmps97
  go_wp2_with (go_at_call 103; refine (len_2 _).mono ?_; rintro e w' ⟨rfl, rfl⟩)
  go_ret
  exact ⟨rfl, rfl⟩
set_option maxHeartbeats 400000 in
set_option maxRecDepth 100000 in
theorem len64_3 (w : World) : Calls Try.prog 118 #[.int .u64 3] w fun e w' => e = .returned (.int .i64 2) ∧ w' = w := by
  go_enter Try.func118, Try.ntmps118
  go_wp2
  go_ret
  exact ⟨by kernel_rfl, rfl⟩
theorem len_3 (w : World) : Calls Try.prog 103 #[.int .u64 3] w fun e w' => e = .returned (.int .i64 2) ∧ w' = w := by
  go_enter Try.func103, Try.ntmps103
  go_wp2_with (go_at_call 118; refine (len64_3 _).mono ?_; rintro e w' ⟨rfl, rfl⟩)
  go_ret
  exact ⟨rfl, rfl⟩
theorem mark_4 (w : World) : Calls Try.prog 97 #[.int .i64 4] w fun e w' => e = .returned (.int .i64 2) ∧ w' = w := by
  go_enter Try.func97, Try.ntmps97
  go_wp2_with (go_at_call 103; refine (len_3 _).mono ?_; rintro e w' ⟨rfl, rfl⟩)
  go_ret
  exact ⟨rfl, rfl⟩
set_option maxHeartbeats 400000 in
set_option maxRecDepth 100000 in
theorem len64_4 (w : World) : Calls Try.prog 118 #[.int .u64 4] w fun e w' => e = .returned (.int .i64 3) ∧ w' = w := by
  go_enter Try.func118, Try.ntmps118
  go_wp2
  go_ret
  exact ⟨by kernel_rfl, rfl⟩
theorem len_4 (w : World) : Calls Try.prog 103 #[.int .u64 4] w fun e w' => e = .returned (.int .i64 3) ∧ w' = w := by
  go_enter Try.func103, Try.ntmps103
  go_wp2_with (go_at_call 118; refine (len64_4 _).mono ?_; rintro e w' ⟨rfl, rfl⟩)
  go_ret
  exact ⟨rfl, rfl⟩
theorem mark_5 (w : World) : Calls Try.prog 97 #[.int .i64 5] w fun e w' => e = .returned (.int .i64 4) ∧ w' = w := by
  go_enter Try.func97, Try.ntmps97
  go_wp2_with (go_at_call 103; refine (len_4 _).mono ?_; rintro e w' ⟨rfl, rfl⟩)
  go_ret
  exact ⟨rfl, rfl⟩
set_option maxHeartbeats 400000 in
set_option maxRecDepth 100000 in
theorem len64_5 (w : World) : Calls Try.prog 118 #[.int .u64 5] w fun e w' => e = .returned (.int .i64 3) ∧ w' = w := by
  go_enter Try.func118, Try.ntmps118
  go_wp2
  go_ret
  exact ⟨by kernel_rfl, rfl⟩
theorem len_5 (w : World) : Calls Try.prog 103 #[.int .u64 5] w fun e w' => e = .returned (.int .i64 3) ∧ w' = w := by
  go_enter Try.func103, Try.ntmps103
  go_wp2_with (go_at_call 118; refine (len64_5 _).mono ?_; rintro e w' ⟨rfl, rfl⟩)
  go_ret
  exact ⟨rfl, rfl⟩
theorem mark_6 (w : World) : Calls Try.prog 97 #[.int .i64 6] w fun e w' => e = .returned (.int .i64 4) ∧ w' = w := by
  go_enter Try.func97, Try.ntmps97
  go_wp2_with (go_at_call 103; refine (len_5 _).mono ?_; rintro e w' ⟨rfl, rfl⟩)
  go_ret
  exact ⟨rfl, rfl⟩
set_option maxHeartbeats 400000 in
set_option maxRecDepth 100000 in
theorem len64_6 (w : World) : Calls Try.prog 118 #[.int .u64 6] w fun e w' => e = .returned (.int .i64 3) ∧ w' = w := by
  go_enter Try.func118, Try.ntmps118
  go_wp2
  go_ret
  exact ⟨by kernel_rfl, rfl⟩
theorem len_6 (w : World) : Calls Try.prog 103 #[.int .u64 6] w fun e w' => e = .returned (.int .i64 3) ∧ w' = w := by
  go_enter Try.func103, Try.ntmps103
  go_wp2_with (go_at_call 118; refine (len64_6 _).mono ?_; rintro e w' ⟨rfl, rfl⟩)
  go_ret
  exact ⟨rfl, rfl⟩
theorem mark_7 (w : World) : Calls Try.prog 97 #[.int .i64 7] w fun e w' => e = .returned (.int .i64 4) ∧ w' = w := by
  go_enter Try.func97, Try.ntmps97
  go_wp2_with (go_at_call 103; refine (len_6 _).mono ?_; rintro e w' ⟨rfl, rfl⟩)
  go_ret
  exact ⟨rfl, rfl⟩
set_option maxHeartbeats 400000 in
set_option maxRecDepth 100000 in
theorem len64_7 (w : World) : Calls Try.prog 118 #[.int .u64 7] w fun e w' => e = .returned (.int .i64 3) ∧ w' = w := by
  go_enter Try.func118, Try.ntmps118
  go_wp2
  go_ret
  exact ⟨by kernel_rfl, rfl⟩
theorem len_7 (w : World) : Calls Try.prog 103 #[.int .u64 7] w fun e w' => e = .returned (.int .i64 3) ∧ w' = w := by
  go_enter Try.func103, Try.ntmps103
  go_wp2_with (go_at_call 118; refine (len64_7 _).mono ?_; rintro e w' ⟨rfl, rfl⟩)
  go_ret
  exact ⟨rfl, rfl⟩
theorem mark_8 (w : World) : Calls Try.prog 97 #[.int .i64 8] w fun e w' => e = .returned (.int .i64 4) ∧ w' = w := by
  go_enter Try.func97, Try.ntmps97
  go_wp2_with (go_at_call 103; refine (len_7 _).mono ?_; rintro e w' ⟨rfl, rfl⟩)
  go_ret
  exact ⟨rfl, rfl⟩
set_option maxHeartbeats 400000 in
set_option maxRecDepth 100000 in
theorem len64_8 (w : World) : Calls Try.prog 118 #[.int .u64 8] w fun e w' => e = .returned (.int .i64 4) ∧ w' = w := by
  go_enter Try.func118, Try.ntmps118
  go_wp2
  go_ret
  exact ⟨by kernel_rfl, rfl⟩
theorem len_8 (w : World) : Calls Try.prog 103 #[.int .u64 8] w fun e w' => e = .returned (.int .i64 4) ∧ w' = w := by
  go_enter Try.func103, Try.ntmps103
  go_wp2_with (go_at_call 118; refine (len64_8 _).mono ?_; rintro e w' ⟨rfl, rfl⟩)
  go_ret
  exact ⟨rfl, rfl⟩
theorem mark_9 (w : World) : Calls Try.prog 97 #[.int .i64 9] w fun e w' => e = .returned (.int .i64 8) ∧ w' = w := by
  go_enter Try.func97, Try.ntmps97
  go_wp2_with (go_at_call 103; refine (len_8 _).mono ?_; rintro e w' ⟨rfl, rfl⟩)
  go_ret
  exact ⟨rfl, rfl⟩
set_option maxHeartbeats 400000 in
set_option maxRecDepth 100000 in
theorem len64_9 (w : World) : Calls Try.prog 118 #[.int .u64 9] w fun e w' => e = .returned (.int .i64 4) ∧ w' = w := by
  go_enter Try.func118, Try.ntmps118
  go_wp2
  go_ret
  exact ⟨by kernel_rfl, rfl⟩
theorem len_9 (w : World) : Calls Try.prog 103 #[.int .u64 9] w fun e w' => e = .returned (.int .i64 4) ∧ w' = w := by
  go_enter Try.func103, Try.ntmps103
  go_wp2_with (go_at_call 118; refine (len64_9 _).mono ?_; rintro e w' ⟨rfl, rfl⟩)
  go_ret
  exact ⟨rfl, rfl⟩
theorem mark_10 (w : World) : Calls Try.prog 97 #[.int .i64 10] w fun e w' => e = .returned (.int .i64 8) ∧ w' = w := by
  go_enter Try.func97, Try.ntmps97
  go_wp2_with (go_at_call 103; refine (len_9 _).mono ?_; rintro e w' ⟨rfl, rfl⟩)
  go_ret
  exact ⟨rfl, rfl⟩
set_option maxHeartbeats 400000 in
set_option maxRecDepth 100000 in
theorem len64_10 (w : World) : Calls Try.prog 118 #[.int .u64 10] w fun e w' => e = .returned (.int .i64 4) ∧ w' = w := by
  go_enter Try.func118, Try.ntmps118
  go_wp2
  go_ret
  exact ⟨by kernel_rfl, rfl⟩
theorem len_10 (w : World) : Calls Try.prog 103 #[.int .u64 10] w fun e w' => e = .returned (.int .i64 4) ∧ w' = w := by
  go_enter Try.func103, Try.ntmps103
  go_wp2_with (go_at_call 118; refine (len64_10 _).mono ?_; rintro e w' ⟨rfl, rfl⟩)
  go_ret
  exact ⟨rfl, rfl⟩
theorem mark_11 (w : World) : Calls Try.prog 97 #[.int .i64 11] w fun e w' => e = .returned (.int .i64 8) ∧ w' = w := by
  go_enter Try.func97, Try.ntmps97
  go_wp2_with (go_at_call 103; refine (len_10 _).mono ?_; rintro e w' ⟨rfl, rfl⟩)
  go_ret
  exact ⟨rfl, rfl⟩
set_option maxHeartbeats 400000 in
set_option maxRecDepth 100000 in
theorem len64_11 (w : World) : Calls Try.prog 118 #[.int .u64 11] w fun e w' => e = .returned (.int .i64 4) ∧ w' = w := by
  go_enter Try.func118, Try.ntmps118
  go_wp2
  go_ret
  exact ⟨by kernel_rfl, rfl⟩
theorem len_11 (w : World) : Calls Try.prog 103 #[.int .u64 11] w fun e w' => e = .returned (.int .i64 4) ∧ w' = w := by
  go_enter Try.func103, Try.ntmps103
  go_wp2_with (go_at_call 118; refine (len64_11 _).mono ?_; rintro e w' ⟨rfl, rfl⟩)
  go_ret
  exact ⟨rfl, rfl⟩
theorem mark_12 (w : World) : Calls Try.prog 97 #[.int .i64 12] w fun e w' => e = .returned (.int .i64 8) ∧ w' = w := by
  go_enter Try.func97, Try.ntmps97
  go_wp2_with (go_at_call 103; refine (len_11 _).mono ?_; rintro e w' ⟨rfl, rfl⟩)
  go_ret
  exact ⟨rfl, rfl⟩
set_option maxHeartbeats 400000 in
set_option maxRecDepth 100000 in
theorem len64_12 (w : World) : Calls Try.prog 118 #[.int .u64 12] w fun e w' => e = .returned (.int .i64 4) ∧ w' = w := by
  go_enter Try.func118, Try.ntmps118
  go_wp2
  go_ret
  exact ⟨by kernel_rfl, rfl⟩
theorem len_12 (w : World) : Calls Try.prog 103 #[.int .u64 12] w fun e w' => e = .returned (.int .i64 4) ∧ w' = w := by
  go_enter Try.func103, Try.ntmps103
  go_wp2_with (go_at_call 118; refine (len64_12 _).mono ?_; rintro e w' ⟨rfl, rfl⟩)
  go_ret
  exact ⟨rfl, rfl⟩
theorem mark_13 (w : World) : Calls Try.prog 97 #[.int .i64 13] w fun e w' => e = .returned (.int .i64 8) ∧ w' = w := by
  go_enter Try.func97, Try.ntmps97
  go_wp2_with (go_at_call 103; refine (len_12 _).mono ?_; rintro e w' ⟨rfl, rfl⟩)
  go_ret
  exact ⟨rfl, rfl⟩
set_option maxHeartbeats 400000 in
set_option maxRecDepth 100000 in
theorem len64_13 (w : World) : Calls Try.prog 118 #[.int .u64 13] w fun e w' => e = .returned (.int .i64 4) ∧ w' = w := by
  go_enter Try.func118, Try.ntmps118
  go_wp2
  go_ret
  exact ⟨by kernel_rfl, rfl⟩
theorem len_13 (w : World) : Calls Try.prog 103 #[.int .u64 13] w fun e w' => e = .returned (.int .i64 4) ∧ w' = w := by
  go_enter Try.func103, Try.ntmps103
  go_wp2_with (go_at_call 118; refine (len64_13 _).mono ?_; rintro e w' ⟨rfl, rfl⟩)
  go_ret
  exact ⟨rfl, rfl⟩
theorem mark_14 (w : World) : Calls Try.prog 97 #[.int .i64 14] w fun e w' => e = .returned (.int .i64 8) ∧ w' = w := by
  go_enter Try.func97, Try.ntmps97
  go_wp2_with (go_at_call 103; refine (len_13 _).mono ?_; rintro e w' ⟨rfl, rfl⟩)
  go_ret
  exact ⟨rfl, rfl⟩
set_option maxHeartbeats 400000 in
set_option maxRecDepth 100000 in
theorem len64_14 (w : World) : Calls Try.prog 118 #[.int .u64 14] w fun e w' => e = .returned (.int .i64 4) ∧ w' = w := by
  go_enter Try.func118, Try.ntmps118
  go_wp2
  go_ret
  exact ⟨by kernel_rfl, rfl⟩
theorem len_14 (w : World) : Calls Try.prog 103 #[.int .u64 14] w fun e w' => e = .returned (.int .i64 4) ∧ w' = w := by
  go_enter Try.func103, Try.ntmps103
  go_wp2_with (go_at_call 118; refine (len64_14 _).mono ?_; rintro e w' ⟨rfl, rfl⟩)
  go_ret
  exact ⟨rfl, rfl⟩
theorem mark_15 (w : World) : Calls Try.prog 97 #[.int .i64 15] w fun e w' => e = .returned (.int .i64 8) ∧ w' = w := by
  go_enter Try.func97, Try.ntmps97
  go_wp2_with (go_at_call 103; refine (len_14 _).mono ?_; rintro e w' ⟨rfl, rfl⟩)
  go_ret
  exact ⟨rfl, rfl⟩
set_option maxHeartbeats 400000 in
set_option maxRecDepth 100000 in
theorem len64_15 (w : World) : Calls Try.prog 118 #[.int .u64 15] w fun e w' => e = .returned (.int .i64 4) ∧ w' = w := by
  go_enter Try.func118, Try.ntmps118
  go_wp2
  go_ret
  exact ⟨by kernel_rfl, rfl⟩
theorem len_15 (w : World) : Calls Try.prog 103 #[.int .u64 15] w fun e w' => e = .returned (.int .i64 4) ∧ w' = w := by
  go_enter Try.func103, Try.ntmps103
  go_wp2_with (go_at_call 118; refine (len64_15 _).mono ?_; rintro e w' ⟨rfl, rfl⟩)
  go_ret
  exact ⟨rfl, rfl⟩
theorem mark_16 (w : World) : Calls Try.prog 97 #[.int .i64 16] w fun e w' => e = .returned (.int .i64 8) ∧ w' = w := by
  go_enter Try.func97, Try.ntmps97
  go_wp2_with (go_at_call 103; refine (len_15 _).mono ?_; rintro e w' ⟨rfl, rfl⟩)
  go_ret
  exact ⟨rfl, rfl⟩
set_option maxHeartbeats 400000 in
set_option maxRecDepth 100000 in
theorem len64_16 (w : World) : Calls Try.prog 118 #[.int .u64 16] w fun e w' => e = .returned (.int .i64 5) ∧ w' = w := by
  go_enter Try.func118, Try.ntmps118
  go_wp2
  go_ret
  exact ⟨by kernel_rfl, rfl⟩
theorem len_16 (w : World) : Calls Try.prog 103 #[.int .u64 16] w fun e w' => e = .returned (.int .i64 5) ∧ w' = w := by
  go_enter Try.func103, Try.ntmps103
  go_wp2_with (go_at_call 118; refine (len64_16 _).mono ?_; rintro e w' ⟨rfl, rfl⟩)
  go_ret
  exact ⟨rfl, rfl⟩
theorem mark_17 (w : World) : Calls Try.prog 97 #[.int .i64 17] w fun e w' => e = .returned (.int .i64 16) ∧ w' = w := by
  go_enter Try.func97, Try.ntmps97
  go_wp2_with (go_at_call 103; refine (len_16 _).mono ?_; rintro e w' ⟨rfl, rfl⟩)
  go_ret
  exact ⟨rfl, rfl⟩
set_option maxHeartbeats 400000 in
set_option maxRecDepth 100000 in
theorem len64_17 (w : World) : Calls Try.prog 118 #[.int .u64 17] w fun e w' => e = .returned (.int .i64 5) ∧ w' = w := by
  go_enter Try.func118, Try.ntmps118
  go_wp2
  go_ret
  exact ⟨by kernel_rfl, rfl⟩
theorem len_17 (w : World) : Calls Try.prog 103 #[.int .u64 17] w fun e w' => e = .returned (.int .i64 5) ∧ w' = w := by
  go_enter Try.func103, Try.ntmps103
  go_wp2_with (go_at_call 118; refine (len64_17 _).mono ?_; rintro e w' ⟨rfl, rfl⟩)
  go_ret
  exact ⟨rfl, rfl⟩
theorem mark_18 (w : World) : Calls Try.prog 97 #[.int .i64 18] w fun e w' => e = .returned (.int .i64 16) ∧ w' = w := by
  go_enter Try.func97, Try.ntmps97
  go_wp2_with (go_at_call 103; refine (len_17 _).mono ?_; rintro e w' ⟨rfl, rfl⟩)
  go_ret
  exact ⟨rfl, rfl⟩
set_option maxHeartbeats 400000 in
set_option maxRecDepth 100000 in
theorem len64_18 (w : World) : Calls Try.prog 118 #[.int .u64 18] w fun e w' => e = .returned (.int .i64 5) ∧ w' = w := by
  go_enter Try.func118, Try.ntmps118
  go_wp2
  go_ret
  exact ⟨by kernel_rfl, rfl⟩
theorem len_18 (w : World) : Calls Try.prog 103 #[.int .u64 18] w fun e w' => e = .returned (.int .i64 5) ∧ w' = w := by
  go_enter Try.func103, Try.ntmps103
  go_wp2_with (go_at_call 118; refine (len64_18 _).mono ?_; rintro e w' ⟨rfl, rfl⟩)
  go_ret
  exact ⟨rfl, rfl⟩
theorem mark_19 (w : World) : Calls Try.prog 97 #[.int .i64 19] w fun e w' => e = .returned (.int .i64 16) ∧ w' = w := by
  go_enter Try.func97, Try.ntmps97
  go_wp2_with (go_at_call 103; refine (len_18 _).mono ?_; rintro e w' ⟨rfl, rfl⟩)
  go_ret
  exact ⟨rfl, rfl⟩
set_option maxHeartbeats 400000 in
set_option maxRecDepth 100000 in
theorem len64_19 (w : World) : Calls Try.prog 118 #[.int .u64 19] w fun e w' => e = .returned (.int .i64 5) ∧ w' = w := by
  go_enter Try.func118, Try.ntmps118
  go_wp2
  go_ret
  exact ⟨by kernel_rfl, rfl⟩
theorem len_19 (w : World) : Calls Try.prog 103 #[.int .u64 19] w fun e w' => e = .returned (.int .i64 5) ∧ w' = w := by
  go_enter Try.func103, Try.ntmps103
  go_wp2_with (go_at_call 118; refine (len64_19 _).mono ?_; rintro e w' ⟨rfl, rfl⟩)
  go_ret
  exact ⟨rfl, rfl⟩
theorem mark_20 (w : World) : Calls Try.prog 97 #[.int .i64 20] w fun e w' => e = .returned (.int .i64 16) ∧ w' = w := by
  go_enter Try.func97, Try.ntmps97
  go_wp2_with (go_at_call 103; refine (len_19 _).mono ?_; rintro e w' ⟨rfl, rfl⟩)
  go_ret
  exact ⟨rfl, rfl⟩
set_option maxHeartbeats 400000 in
set_option maxRecDepth 100000 in
theorem len64_20 (w : World) : Calls Try.prog 118 #[.int .u64 20] w fun e w' => e = .returned (.int .i64 5) ∧ w' = w := by
  go_enter Try.func118, Try.ntmps118
  go_wp2
  go_ret
  exact ⟨by kernel_rfl, rfl⟩
theorem len_20 (w : World) : Calls Try.prog 103 #[.int .u64 20] w fun e w' => e = .returned (.int .i64 5) ∧ w' = w := by
  go_enter Try.func103, Try.ntmps103
  go_wp2_with (go_at_call 118; refine (len64_20 _).mono ?_; rintro e w' ⟨rfl, rfl⟩)
  go_ret
  exact ⟨rfl, rfl⟩
theorem mark_21 (w : World) : Calls Try.prog 97 #[.int .i64 21] w fun e w' => e = .returned (.int .i64 16) ∧ w' = w := by
  go_enter Try.func97, Try.ntmps97
  go_wp2_with (go_at_call 103; refine (len_20 _).mono ?_; rintro e w' ⟨rfl, rfl⟩)
  go_ret
  exact ⟨rfl, rfl⟩
set_option maxHeartbeats 400000 in
set_option maxRecDepth 100000 in
theorem len64_21 (w : World) : Calls Try.prog 118 #[.int .u64 21] w fun e w' => e = .returned (.int .i64 5) ∧ w' = w := by
  go_enter Try.func118, Try.ntmps118
  go_wp2
  go_ret
  exact ⟨by kernel_rfl, rfl⟩
theorem len_21 (w : World) : Calls Try.prog 103 #[.int .u64 21] w fun e w' => e = .returned (.int .i64 5) ∧ w' = w := by
  go_enter Try.func103, Try.ntmps103
  go_wp2_with (go_at_call 118; refine (len64_21 _).mono ?_; rintro e w' ⟨rfl, rfl⟩)
  go_ret
  exact ⟨rfl, rfl⟩
theorem mark_22 (w : World) : Calls Try.prog 97 #[.int .i64 22] w fun e w' => e = .returned (.int .i64 16) ∧ w' = w := by
  go_enter Try.func97, Try.ntmps97
  go_wp2_with (go_at_call 103; refine (len_21 _).mono ?_; rintro e w' ⟨rfl, rfl⟩)
  go_ret
  exact ⟨rfl, rfl⟩
set_option maxHeartbeats 400000 in
set_option maxRecDepth 100000 in
theorem len64_22 (w : World) : Calls Try.prog 118 #[.int .u64 22] w fun e w' => e = .returned (.int .i64 5) ∧ w' = w := by
  go_enter Try.func118, Try.ntmps118
  go_wp2
  go_ret
  exact ⟨by kernel_rfl, rfl⟩
theorem len_22 (w : World) : Calls Try.prog 103 #[.int .u64 22] w fun e w' => e = .returned (.int .i64 5) ∧ w' = w := by
  go_enter Try.func103, Try.ntmps103
  go_wp2_with (go_at_call 118; refine (len64_22 _).mono ?_; rintro e w' ⟨rfl, rfl⟩)
  go_ret
  exact ⟨rfl, rfl⟩
theorem mark_23 (w : World) : Calls Try.prog 97 #[.int .i64 23] w fun e w' => e = .returned (.int .i64 16) ∧ w' = w := by
  go_enter Try.func97, Try.ntmps97
  go_wp2_with (go_at_call 103; refine (len_22 _).mono ?_; rintro e w' ⟨rfl, rfl⟩)
  go_ret
  exact ⟨rfl, rfl⟩
set_option maxHeartbeats 400000 in
set_option maxRecDepth 100000 in
theorem len64_23 (w : World) : Calls Try.prog 118 #[.int .u64 23] w fun e w' => e = .returned (.int .i64 5) ∧ w' = w := by
  go_enter Try.func118, Try.ntmps118
  go_wp2
  go_ret
  exact ⟨by kernel_rfl, rfl⟩
theorem len_23 (w : World) : Calls Try.prog 103 #[.int .u64 23] w fun e w' => e = .returned (.int .i64 5) ∧ w' = w := by
  go_enter Try.func103, Try.ntmps103
  go_wp2_with (go_at_call 118; refine (len64_23 _).mono ?_; rintro e w' ⟨rfl, rfl⟩)
  go_ret
  exact ⟨rfl, rfl⟩
theorem mark_24 (w : World) : Calls Try.prog 97 #[.int .i64 24] w fun e w' => e = .returned (.int .i64 16) ∧ w' = w := by
  go_enter Try.func97, Try.ntmps97
  go_wp2_with (go_at_call 103; refine (len_23 _).mono ?_; rintro e w' ⟨rfl, rfl⟩)
  go_ret
  exact ⟨rfl, rfl⟩
set_option maxHeartbeats 400000 in
set_option maxRecDepth 100000 in
theorem len64_24 (w : World) : Calls Try.prog 118 #[.int .u64 24] w fun e w' => e = .returned (.int .i64 5) ∧ w' = w := by
  go_enter Try.func118, Try.ntmps118
  go_wp2
  go_ret
  exact ⟨by kernel_rfl, rfl⟩
theorem len_24 (w : World) : Calls Try.prog 103 #[.int .u64 24] w fun e w' => e = .returned (.int .i64 5) ∧ w' = w := by
  go_enter Try.func103, Try.ntmps103
  go_wp2_with (go_at_call 118; refine (len64_24 _).mono ?_; rintro e w' ⟨rfl, rfl⟩)
  go_ret
  exact ⟨rfl, rfl⟩
theorem mark_25 (w : World) : Calls Try.prog 97 #[.int .i64 25] w fun e w' => e = .returned (.int .i64 16) ∧ w' = w := by
  go_enter Try.func97, Try.ntmps97
  go_wp2_with (go_at_call 103; refine (len_24 _).mono ?_; rintro e w' ⟨rfl, rfl⟩)
  go_ret
  exact ⟨rfl, rfl⟩
set_option maxHeartbeats 400000 in
set_option maxRecDepth 100000 in
theorem len64_25 (w : World) : Calls Try.prog 118 #[.int .u64 25] w fun e w' => e = .returned (.int .i64 5) ∧ w' = w := by
  go_enter Try.func118, Try.ntmps118
  go_wp2
  go_ret
  exact ⟨by kernel_rfl, rfl⟩
theorem len_25 (w : World) : Calls Try.prog 103 #[.int .u64 25] w fun e w' => e = .returned (.int .i64 5) ∧ w' = w := by
  go_enter Try.func103, Try.ntmps103
  go_wp2_with (go_at_call 118; refine (len64_25 _).mono ?_; rintro e w' ⟨rfl, rfl⟩)
  go_ret
  exact ⟨rfl, rfl⟩
theorem mark_26 (w : World) : Calls Try.prog 97 #[.int .i64 26] w fun e w' => e = .returned (.int .i64 16) ∧ w' = w := by
  go_enter Try.func97, Try.ntmps97
  go_wp2_with (go_at_call 103; refine (len_25 _).mono ?_; rintro e w' ⟨rfl, rfl⟩)
  go_ret
  exact ⟨rfl, rfl⟩
set_option maxHeartbeats 400000 in
set_option maxRecDepth 100000 in
theorem len64_26 (w : World) : Calls Try.prog 118 #[.int .u64 26] w fun e w' => e = .returned (.int .i64 5) ∧ w' = w := by
  go_enter Try.func118, Try.ntmps118
  go_wp2
  go_ret
  exact ⟨by kernel_rfl, rfl⟩
theorem len_26 (w : World) : Calls Try.prog 103 #[.int .u64 26] w fun e w' => e = .returned (.int .i64 5) ∧ w' = w := by
  go_enter Try.func103, Try.ntmps103
  go_wp2_with (go_at_call 118; refine (len64_26 _).mono ?_; rintro e w' ⟨rfl, rfl⟩)
  go_ret
  exact ⟨rfl, rfl⟩
theorem mark_27 (w : World) : Calls Try.prog 97 #[.int .i64 27] w fun e w' => e = .returned (.int .i64 16) ∧ w' = w := by
  go_enter Try.func97, Try.ntmps97
  go_wp2_with (go_at_call 103; refine (len_26 _).mono ?_; rintro e w' ⟨rfl, rfl⟩)
  go_ret
  exact ⟨rfl, rfl⟩
set_option maxHeartbeats 400000 in
set_option maxRecDepth 100000 in
theorem len64_27 (w : World) : Calls Try.prog 118 #[.int .u64 27] w fun e w' => e = .returned (.int .i64 5) ∧ w' = w := by
  go_enter Try.func118, Try.ntmps118
  go_wp2
  go_ret
  exact ⟨by kernel_rfl, rfl⟩
theorem len_27 (w : World) : Calls Try.prog 103 #[.int .u64 27] w fun e w' => e = .returned (.int .i64 5) ∧ w' = w := by
  go_enter Try.func103, Try.ntmps103
  go_wp2_with (go_at_call 118; refine (len64_27 _).mono ?_; rintro e w' ⟨rfl, rfl⟩)
  go_ret
  exact ⟨rfl, rfl⟩
theorem mark_28 (w : World) : Calls Try.prog 97 #[.int .i64 28] w fun e w' => e = .returned (.int .i64 16) ∧ w' = w := by
  go_enter Try.func97, Try.ntmps97
  go_wp2_with (go_at_call 103; refine (len_27 _).mono ?_; rintro e w' ⟨rfl, rfl⟩)
  go_ret
  exact ⟨rfl, rfl⟩
set_option maxHeartbeats 400000 in
set_option maxRecDepth 100000 in
theorem len64_28 (w : World) : Calls Try.prog 118 #[.int .u64 28] w fun e w' => e = .returned (.int .i64 5) ∧ w' = w := by
  go_enter Try.func118, Try.ntmps118
  go_wp2
  go_ret
  exact ⟨by kernel_rfl, rfl⟩
theorem len_28 (w : World) : Calls Try.prog 103 #[.int .u64 28] w fun e w' => e = .returned (.int .i64 5) ∧ w' = w := by
  go_enter Try.func103, Try.ntmps103
  go_wp2_with (go_at_call 118; refine (len64_28 _).mono ?_; rintro e w' ⟨rfl, rfl⟩)
  go_ret
  exact ⟨rfl, rfl⟩
theorem mark_29 (w : World) : Calls Try.prog 97 #[.int .i64 29] w fun e w' => e = .returned (.int .i64 16) ∧ w' = w := by
  go_enter Try.func97, Try.ntmps97
  go_wp2_with (go_at_call 103; refine (len_28 _).mono ?_; rintro e w' ⟨rfl, rfl⟩)
  go_ret
  exact ⟨rfl, rfl⟩
set_option maxHeartbeats 400000 in
set_option maxRecDepth 100000 in
theorem len64_29 (w : World) : Calls Try.prog 118 #[.int .u64 29] w fun e w' => e = .returned (.int .i64 5) ∧ w' = w := by
  go_enter Try.func118, Try.ntmps118
  go_wp2
  go_ret
  exact ⟨by kernel_rfl, rfl⟩
theorem len_29 (w : World) : Calls Try.prog 103 #[.int .u64 29] w fun e w' => e = .returned (.int .i64 5) ∧ w' = w := by
  go_enter Try.func103, Try.ntmps103
  go_wp2_with (go_at_call 118; refine (len64_29 _).mono ?_; rintro e w' ⟨rfl, rfl⟩)
  go_ret
  exact ⟨rfl, rfl⟩
theorem mark_30 (w : World) : Calls Try.prog 97 #[.int .i64 30] w fun e w' => e = .returned (.int .i64 16) ∧ w' = w := by
  go_enter Try.func97, Try.ntmps97
  go_wp2_with (go_at_call 103; refine (len_29 _).mono ?_; rintro e w' ⟨rfl, rfl⟩)
  go_ret
  exact ⟨rfl, rfl⟩
set_option maxHeartbeats 400000 in
set_option maxRecDepth 100000 in
theorem len64_30 (w : World) : Calls Try.prog 118 #[.int .u64 30] w fun e w' => e = .returned (.int .i64 5) ∧ w' = w := by
  go_enter Try.func118, Try.ntmps118
  go_wp2
  go_ret
  exact ⟨by kernel_rfl, rfl⟩
theorem len_30 (w : World) : Calls Try.prog 103 #[.int .u64 30] w fun e w' => e = .returned (.int .i64 5) ∧ w' = w := by
  go_enter Try.func103, Try.ntmps103
  go_wp2_with (go_at_call 118; refine (len64_30 _).mono ?_; rintro e w' ⟨rfl, rfl⟩)
  go_ret
  exact ⟨rfl, rfl⟩
theorem mark_31 (w : World) : Calls Try.prog 97 #[.int .i64 31] w fun e w' => e = .returned (.int .i64 16) ∧ w' = w := by
  go_enter Try.func97, Try.ntmps97
  go_wp2_with (go_at_call 103; refine (len_30 _).mono ?_; rintro e w' ⟨rfl, rfl⟩)
  go_ret
  exact ⟨rfl, rfl⟩
set_option maxHeartbeats 400000 in
set_option maxRecDepth 100000 in
theorem len64_31 (w : World) : Calls Try.prog 118 #[.int .u64 31] w fun e w' => e = .returned (.int .i64 5) ∧ w' = w := by
  go_enter Try.func118, Try.ntmps118
  go_wp2
  go_ret
  exact ⟨by kernel_rfl, rfl⟩
theorem len_31 (w : World) : Calls Try.prog 103 #[.int .u64 31] w fun e w' => e = .returned (.int .i64 5) ∧ w' = w := by
  go_enter Try.func103, Try.ntmps103
  go_wp2_with (go_at_call 118; refine (len64_31 _).mono ?_; rintro e w' ⟨rfl, rfl⟩)
  go_ret
  exact ⟨rfl, rfl⟩
theorem mark_32 (w : World) : Calls Try.prog 97 #[.int .i64 32] w fun e w' => e = .returned (.int .i64 16) ∧ w' = w := by
  go_enter Try.func97, Try.ntmps97
  go_wp2_with (go_at_call 103; refine (len_31 _).mono ?_; rintro e w' ⟨rfl, rfl⟩)
  go_ret
  exact ⟨rfl, rfl⟩
set_option maxHeartbeats 400000 in
set_option maxRecDepth 100000 in
theorem len64_32 (w : World) : Calls Try.prog 118 #[.int .u64 32] w fun e w' => e = .returned (.int .i64 6) ∧ w' = w := by
  go_enter Try.func118, Try.ntmps118
  go_wp2
  go_ret
  exact ⟨by kernel_rfl, rfl⟩
theorem len_32 (w : World) : Calls Try.prog 103 #[.int .u64 32] w fun e w' => e = .returned (.int .i64 6) ∧ w' = w := by
  go_enter Try.func103, Try.ntmps103
  go_wp2_with (go_at_call 118; refine (len64_32 _).mono ?_; rintro e w' ⟨rfl, rfl⟩)
  go_ret
  exact ⟨rfl, rfl⟩
theorem mark_33 (w : World) : Calls Try.prog 97 #[.int .i64 33] w fun e w' => e = .returned (.int .i64 32) ∧ w' = w := by
  go_enter Try.func97, Try.ntmps97
  go_wp2_with (go_at_call 103; refine (len_32 _).mono ?_; rintro e w' ⟨rfl, rfl⟩)
  go_ret
  exact ⟨rfl, rfl⟩
set_option maxHeartbeats 400000 in
set_option maxRecDepth 100000 in
theorem len64_33 (w : World) : Calls Try.prog 118 #[.int .u64 33] w fun e w' => e = .returned (.int .i64 6) ∧ w' = w := by
  go_enter Try.func118, Try.ntmps118
  go_wp2
  go_ret
  exact ⟨by kernel_rfl, rfl⟩
theorem len_33 (w : World) : Calls Try.prog 103 #[.int .u64 33] w fun e w' => e = .returned (.int .i64 6) ∧ w' = w := by
  go_enter Try.func103, Try.ntmps103
  go_wp2_with (go_at_call 118; refine (len64_33 _).mono ?_; rintro e w' ⟨rfl, rfl⟩)
  go_ret
  exact ⟨rfl, rfl⟩
theorem mark_34 (w : World) : Calls Try.prog 97 #[.int .i64 34] w fun e w' => e = .returned (.int .i64 32) ∧ w' = w := by
  go_enter Try.func97, Try.ntmps97
  go_wp2_with (go_at_call 103; refine (len_33 _).mono ?_; rintro e w' ⟨rfl, rfl⟩)
  go_ret
  exact ⟨rfl, rfl⟩
set_option maxHeartbeats 400000 in
set_option maxRecDepth 100000 in
theorem len64_34 (w : World) : Calls Try.prog 118 #[.int .u64 34] w fun e w' => e = .returned (.int .i64 6) ∧ w' = w := by
  go_enter Try.func118, Try.ntmps118
  go_wp2
  go_ret
  exact ⟨by kernel_rfl, rfl⟩
theorem len_34 (w : World) : Calls Try.prog 103 #[.int .u64 34] w fun e w' => e = .returned (.int .i64 6) ∧ w' = w := by
  go_enter Try.func103, Try.ntmps103
  go_wp2_with (go_at_call 118; refine (len64_34 _).mono ?_; rintro e w' ⟨rfl, rfl⟩)
  go_ret
  exact ⟨rfl, rfl⟩
theorem mark_35 (w : World) : Calls Try.prog 97 #[.int .i64 35] w fun e w' => e = .returned (.int .i64 32) ∧ w' = w := by
  go_enter Try.func97, Try.ntmps97
  go_wp2_with (go_at_call 103; refine (len_34 _).mono ?_; rintro e w' ⟨rfl, rfl⟩)
  go_ret
  exact ⟨rfl, rfl⟩
set_option maxHeartbeats 400000 in
set_option maxRecDepth 100000 in
theorem len64_35 (w : World) : Calls Try.prog 118 #[.int .u64 35] w fun e w' => e = .returned (.int .i64 6) ∧ w' = w := by
  go_enter Try.func118, Try.ntmps118
  go_wp2
  go_ret
  exact ⟨by kernel_rfl, rfl⟩
theorem len_35 (w : World) : Calls Try.prog 103 #[.int .u64 35] w fun e w' => e = .returned (.int .i64 6) ∧ w' = w := by
  go_enter Try.func103, Try.ntmps103
  go_wp2_with (go_at_call 118; refine (len64_35 _).mono ?_; rintro e w' ⟨rfl, rfl⟩)
  go_ret
  exact ⟨rfl, rfl⟩
theorem mark_36 (w : World) : Calls Try.prog 97 #[.int .i64 36] w fun e w' => e = .returned (.int .i64 32) ∧ w' = w := by
  go_enter Try.func97, Try.ntmps97
  go_wp2_with (go_at_call 103; refine (len_35 _).mono ?_; rintro e w' ⟨rfl, rfl⟩)
  go_ret
  exact ⟨rfl, rfl⟩
set_option maxHeartbeats 400000 in
set_option maxRecDepth 100000 in
theorem len64_36 (w : World) : Calls Try.prog 118 #[.int .u64 36] w fun e w' => e = .returned (.int .i64 6) ∧ w' = w := by
  go_enter Try.func118, Try.ntmps118
  go_wp2
  go_ret
  exact ⟨by kernel_rfl, rfl⟩
theorem len_36 (w : World) : Calls Try.prog 103 #[.int .u64 36] w fun e w' => e = .returned (.int .i64 6) ∧ w' = w := by
  go_enter Try.func103, Try.ntmps103
  go_wp2_with (go_at_call 118; refine (len64_36 _).mono ?_; rintro e w' ⟨rfl, rfl⟩)
  go_ret
  exact ⟨rfl, rfl⟩
theorem mark_37 (w : World) : Calls Try.prog 97 #[.int .i64 37] w fun e w' => e = .returned (.int .i64 32) ∧ w' = w := by
  go_enter Try.func97, Try.ntmps97
  go_wp2_with (go_at_call 103; refine (len_36 _).mono ?_; rintro e w' ⟨rfl, rfl⟩)
  go_ret
  exact ⟨rfl, rfl⟩
set_option maxHeartbeats 400000 in
set_option maxRecDepth 100000 in
theorem len64_37 (w : World) : Calls Try.prog 118 #[.int .u64 37] w fun e w' => e = .returned (.int .i64 6) ∧ w' = w := by
  go_enter Try.func118, Try.ntmps118
  go_wp2
  go_ret
  exact ⟨by kernel_rfl, rfl⟩
theorem len_37 (w : World) : Calls Try.prog 103 #[.int .u64 37] w fun e w' => e = .returned (.int .i64 6) ∧ w' = w := by
  go_enter Try.func103, Try.ntmps103
  go_wp2_with (go_at_call 118; refine (len64_37 _).mono ?_; rintro e w' ⟨rfl, rfl⟩)
  go_ret
  exact ⟨rfl, rfl⟩
theorem mark_38 (w : World) : Calls Try.prog 97 #[.int .i64 38] w fun e w' => e = .returned (.int .i64 32) ∧ w' = w := by
  go_enter Try.func97, Try.ntmps97
  go_wp2_with (go_at_call 103; refine (len_37 _).mono ?_; rintro e w' ⟨rfl, rfl⟩)
  go_ret
  exact ⟨rfl, rfl⟩
set_option maxHeartbeats 400000 in
set_option maxRecDepth 100000 in
theorem len64_38 (w : World) : Calls Try.prog 118 #[.int .u64 38] w fun e w' => e = .returned (.int .i64 6) ∧ w' = w := by
  go_enter Try.func118, Try.ntmps118
  go_wp2
  go_ret
  exact ⟨by kernel_rfl, rfl⟩
theorem len_38 (w : World) : Calls Try.prog 103 #[.int .u64 38] w fun e w' => e = .returned (.int .i64 6) ∧ w' = w := by
  go_enter Try.func103, Try.ntmps103
  go_wp2_with (go_at_call 118; refine (len64_38 _).mono ?_; rintro e w' ⟨rfl, rfl⟩)
  go_ret
  exact ⟨rfl, rfl⟩
theorem mark_39 (w : World) : Calls Try.prog 97 #[.int .i64 39] w fun e w' => e = .returned (.int .i64 32) ∧ w' = w := by
  go_enter Try.func97, Try.ntmps97
  go_wp2_with (go_at_call 103; refine (len_38 _).mono ?_; rintro e w' ⟨rfl, rfl⟩)
  go_ret
  exact ⟨rfl, rfl⟩
set_option maxHeartbeats 400000 in
set_option maxRecDepth 100000 in
theorem len64_39 (w : World) : Calls Try.prog 118 #[.int .u64 39] w fun e w' => e = .returned (.int .i64 6) ∧ w' = w := by
  go_enter Try.func118, Try.ntmps118
  go_wp2
  go_ret
  exact ⟨by kernel_rfl, rfl⟩
theorem len_39 (w : World) : Calls Try.prog 103 #[.int .u64 39] w fun e w' => e = .returned (.int .i64 6) ∧ w' = w := by
  go_enter Try.func103, Try.ntmps103
  go_wp2_with (go_at_call 118; refine (len64_39 _).mono ?_; rintro e w' ⟨rfl, rfl⟩)
  go_ret
  exact ⟨rfl, rfl⟩
theorem mark_40 (w : World) : Calls Try.prog 97 #[.int .i64 40] w fun e w' => e = .returned (.int .i64 32) ∧ w' = w := by
  go_enter Try.func97, Try.ntmps97
  go_wp2_with (go_at_call 103; refine (len_39 _).mono ?_; rintro e w' ⟨rfl, rfl⟩)
  go_ret
  exact ⟨rfl, rfl⟩
set_option maxHeartbeats 400000 in
set_option maxRecDepth 100000 in
theorem len64_40 (w : World) : Calls Try.prog 118 #[.int .u64 40] w fun e w' => e = .returned (.int .i64 6) ∧ w' = w := by
  go_enter Try.func118, Try.ntmps118
  go_wp2
  go_ret
  exact ⟨by kernel_rfl, rfl⟩
theorem len_40 (w : World) : Calls Try.prog 103 #[.int .u64 40] w fun e w' => e = .returned (.int .i64 6) ∧ w' = w := by
  go_enter Try.func103, Try.ntmps103
  go_wp2_with (go_at_call 118; refine (len64_40 _).mono ?_; rintro e w' ⟨rfl, rfl⟩)
  go_ret
  exact ⟨rfl, rfl⟩
theorem mark_41 (w : World) : Calls Try.prog 97 #[.int .i64 41] w fun e w' => e = .returned (.int .i64 32) ∧ w' = w := by
  go_enter Try.func97, Try.ntmps97
  go_wp2_with (go_at_call 103; refine (len_40 _).mono ?_; rintro e w' ⟨rfl, rfl⟩)
  go_ret
  exact ⟨rfl, rfl⟩
set_option maxHeartbeats 400000 in
set_option maxRecDepth 100000 in
theorem len64_41 (w : World) : Calls Try.prog 118 #[.int .u64 41] w fun e w' => e = .returned (.int .i64 6) ∧ w' = w := by
  go_enter Try.func118, Try.ntmps118
  go_wp2
  go_ret
  exact ⟨by kernel_rfl, rfl⟩
theorem len_41 (w : World) : Calls Try.prog 103 #[.int .u64 41] w fun e w' => e = .returned (.int .i64 6) ∧ w' = w := by
  go_enter Try.func103, Try.ntmps103
  go_wp2_with (go_at_call 118; refine (len64_41 _).mono ?_; rintro e w' ⟨rfl, rfl⟩)
  go_ret
  exact ⟨rfl, rfl⟩
theorem mark_42 (w : World) : Calls Try.prog 97 #[.int .i64 42] w fun e w' => e = .returned (.int .i64 32) ∧ w' = w := by
  go_enter Try.func97, Try.ntmps97
  go_wp2_with (go_at_call 103; refine (len_41 _).mono ?_; rintro e w' ⟨rfl, rfl⟩)
  go_ret
  exact ⟨rfl, rfl⟩
set_option maxHeartbeats 400000 in
set_option maxRecDepth 100000 in
theorem len64_42 (w : World) : Calls Try.prog 118 #[.int .u64 42] w fun e w' => e = .returned (.int .i64 6) ∧ w' = w := by
  go_enter Try.func118, Try.ntmps118
  go_wp2
  go_ret
  exact ⟨by kernel_rfl, rfl⟩
theorem len_42 (w : World) : Calls Try.prog 103 #[.int .u64 42] w fun e w' => e = .returned (.int .i64 6) ∧ w' = w := by
  go_enter Try.func103, Try.ntmps103
  go_wp2_with (go_at_call 118; refine (len64_42 _).mono ?_; rintro e w' ⟨rfl, rfl⟩)
  go_ret
  exact ⟨rfl, rfl⟩
theorem mark_43 (w : World) : Calls Try.prog 97 #[.int .i64 43] w fun e w' => e = .returned (.int .i64 32) ∧ w' = w := by
  go_enter Try.func97, Try.ntmps97
  go_wp2_with (go_at_call 103; refine (len_42 _).mono ?_; rintro e w' ⟨rfl, rfl⟩)
  go_ret
  exact ⟨rfl, rfl⟩
set_option maxHeartbeats 400000 in
set_option maxRecDepth 100000 in
theorem len64_43 (w : World) : Calls Try.prog 118 #[.int .u64 43] w fun e w' => e = .returned (.int .i64 6) ∧ w' = w := by
  go_enter Try.func118, Try.ntmps118
  go_wp2
  go_ret
  exact ⟨by kernel_rfl, rfl⟩
theorem len_43 (w : World) : Calls Try.prog 103 #[.int .u64 43] w fun e w' => e = .returned (.int .i64 6) ∧ w' = w := by
  go_enter Try.func103, Try.ntmps103
  go_wp2_with (go_at_call 118; refine (len64_43 _).mono ?_; rintro e w' ⟨rfl, rfl⟩)
  go_ret
  exact ⟨rfl, rfl⟩
theorem mark_44 (w : World) : Calls Try.prog 97 #[.int .i64 44] w fun e w' => e = .returned (.int .i64 32) ∧ w' = w := by
  go_enter Try.func97, Try.ntmps97
  go_wp2_with (go_at_call 103; refine (len_43 _).mono ?_; rintro e w' ⟨rfl, rfl⟩)
  go_ret
  exact ⟨rfl, rfl⟩
set_option maxHeartbeats 400000 in
set_option maxRecDepth 100000 in
theorem len64_44 (w : World) : Calls Try.prog 118 #[.int .u64 44] w fun e w' => e = .returned (.int .i64 6) ∧ w' = w := by
  go_enter Try.func118, Try.ntmps118
  go_wp2
  go_ret
  exact ⟨by kernel_rfl, rfl⟩
theorem len_44 (w : World) : Calls Try.prog 103 #[.int .u64 44] w fun e w' => e = .returned (.int .i64 6) ∧ w' = w := by
  go_enter Try.func103, Try.ntmps103
  go_wp2_with (go_at_call 118; refine (len64_44 _).mono ?_; rintro e w' ⟨rfl, rfl⟩)
  go_ret
  exact ⟨rfl, rfl⟩
theorem mark_45 (w : World) : Calls Try.prog 97 #[.int .i64 45] w fun e w' => e = .returned (.int .i64 32) ∧ w' = w := by
  go_enter Try.func97, Try.ntmps97
  go_wp2_with (go_at_call 103; refine (len_44 _).mono ?_; rintro e w' ⟨rfl, rfl⟩)
  go_ret
  exact ⟨rfl, rfl⟩
set_option maxHeartbeats 400000 in
set_option maxRecDepth 100000 in
theorem len64_45 (w : World) : Calls Try.prog 118 #[.int .u64 45] w fun e w' => e = .returned (.int .i64 6) ∧ w' = w := by
  go_enter Try.func118, Try.ntmps118
  go_wp2
  go_ret
  exact ⟨by kernel_rfl, rfl⟩
theorem len_45 (w : World) : Calls Try.prog 103 #[.int .u64 45] w fun e w' => e = .returned (.int .i64 6) ∧ w' = w := by
  go_enter Try.func103, Try.ntmps103
  go_wp2_with (go_at_call 118; refine (len64_45 _).mono ?_; rintro e w' ⟨rfl, rfl⟩)
  go_ret
  exact ⟨rfl, rfl⟩
theorem mark_46 (w : World) : Calls Try.prog 97 #[.int .i64 46] w fun e w' => e = .returned (.int .i64 32) ∧ w' = w := by
  go_enter Try.func97, Try.ntmps97
  go_wp2_with (go_at_call 103; refine (len_45 _).mono ?_; rintro e w' ⟨rfl, rfl⟩)
  go_ret
  exact ⟨rfl, rfl⟩
set_option maxHeartbeats 400000 in
set_option maxRecDepth 100000 in
theorem len64_46 (w : World) : Calls Try.prog 118 #[.int .u64 46] w fun e w' => e = .returned (.int .i64 6) ∧ w' = w := by
  go_enter Try.func118, Try.ntmps118
  go_wp2
  go_ret
  exact ⟨by kernel_rfl, rfl⟩
theorem len_46 (w : World) : Calls Try.prog 103 #[.int .u64 46] w fun e w' => e = .returned (.int .i64 6) ∧ w' = w := by
  go_enter Try.func103, Try.ntmps103
  go_wp2_with (go_at_call 118; refine (len64_46 _).mono ?_; rintro e w' ⟨rfl, rfl⟩)
  go_ret
  exact ⟨rfl, rfl⟩
theorem mark_47 (w : World) : Calls Try.prog 97 #[.int .i64 47] w fun e w' => e = .returned (.int .i64 32) ∧ w' = w := by
  go_enter Try.func97, Try.ntmps97
  go_wp2_with (go_at_call 103; refine (len_46 _).mono ?_; rintro e w' ⟨rfl, rfl⟩)
  go_ret
  exact ⟨rfl, rfl⟩
set_option maxHeartbeats 400000 in
set_option maxRecDepth 100000 in
theorem len64_47 (w : World) : Calls Try.prog 118 #[.int .u64 47] w fun e w' => e = .returned (.int .i64 6) ∧ w' = w := by
  go_enter Try.func118, Try.ntmps118
  go_wp2
  go_ret
  exact ⟨by kernel_rfl, rfl⟩
theorem len_47 (w : World) : Calls Try.prog 103 #[.int .u64 47] w fun e w' => e = .returned (.int .i64 6) ∧ w' = w := by
  go_enter Try.func103, Try.ntmps103
  go_wp2_with (go_at_call 118; refine (len64_47 _).mono ?_; rintro e w' ⟨rfl, rfl⟩)
  go_ret
  exact ⟨rfl, rfl⟩
theorem mark_48 (w : World) : Calls Try.prog 97 #[.int .i64 48] w fun e w' => e = .returned (.int .i64 32) ∧ w' = w := by
  go_enter Try.func97, Try.ntmps97
  go_wp2_with (go_at_call 103; refine (len_47 _).mono ?_; rintro e w' ⟨rfl, rfl⟩)
  go_ret
  exact ⟨rfl, rfl⟩
set_option maxHeartbeats 400000 in
set_option maxRecDepth 100000 in
theorem len64_48 (w : World) : Calls Try.prog 118 #[.int .u64 48] w fun e w' => e = .returned (.int .i64 6) ∧ w' = w := by
  go_enter Try.func118, Try.ntmps118
  go_wp2
  go_ret
  exact ⟨by kernel_rfl, rfl⟩
theorem len_48 (w : World) : Calls Try.prog 103 #[.int .u64 48] w fun e w' => e = .returned (.int .i64 6) ∧ w' = w := by
  go_enter Try.func103, Try.ntmps103
  go_wp2_with (go_at_call 118; refine (len64_48 _).mono ?_; rintro e w' ⟨rfl, rfl⟩)
  go_ret
  exact ⟨rfl, rfl⟩
theorem mark_49 (w : World) : Calls Try.prog 97 #[.int .i64 49] w fun e w' => e = .returned (.int .i64 32) ∧ w' = w := by
  go_enter Try.func97, Try.ntmps97
  go_wp2_with (go_at_call 103; refine (len_48 _).mono ?_; rintro e w' ⟨rfl, rfl⟩)
  go_ret
  exact ⟨rfl, rfl⟩
set_option maxHeartbeats 400000 in
set_option maxRecDepth 100000 in
theorem len64_49 (w : World) : Calls Try.prog 118 #[.int .u64 49] w fun e w' => e = .returned (.int .i64 6) ∧ w' = w := by
  go_enter Try.func118, Try.ntmps118
  go_wp2
  go_ret
  exact ⟨by kernel_rfl, rfl⟩
theorem len_49 (w : World) : Calls Try.prog 103 #[.int .u64 49] w fun e w' => e = .returned (.int .i64 6) ∧ w' = w := by
  go_enter Try.func103, Try.ntmps103
  go_wp2_with (go_at_call 118; refine (len64_49 _).mono ?_; rintro e w' ⟨rfl, rfl⟩)
  go_ret
  exact ⟨rfl, rfl⟩
theorem mark_50 (w : World) : Calls Try.prog 97 #[.int .i64 50] w fun e w' => e = .returned (.int .i64 32) ∧ w' = w := by
  go_enter Try.func97, Try.ntmps97
  go_wp2_with (go_at_call 103; refine (len_49 _).mono ?_; rintro e w' ⟨rfl, rfl⟩)
  go_ret
  exact ⟨rfl, rfl⟩
set_option maxHeartbeats 400000 in
set_option maxRecDepth 100000 in
theorem len64_50 (w : World) : Calls Try.prog 118 #[.int .u64 50] w fun e w' => e = .returned (.int .i64 6) ∧ w' = w := by
  go_enter Try.func118, Try.ntmps118
  go_wp2
  go_ret
  exact ⟨by kernel_rfl, rfl⟩
theorem len_50 (w : World) : Calls Try.prog 103 #[.int .u64 50] w fun e w' => e = .returned (.int .i64 6) ∧ w' = w := by
  go_enter Try.func103, Try.ntmps103
  go_wp2_with (go_at_call 118; refine (len64_50 _).mono ?_; rintro e w' ⟨rfl, rfl⟩)
  go_ret
  exact ⟨rfl, rfl⟩
theorem mark_51 (w : World) : Calls Try.prog 97 #[.int .i64 51] w fun e w' => e = .returned (.int .i64 32) ∧ w' = w := by
  go_enter Try.func97, Try.ntmps97
  go_wp2_with (go_at_call 103; refine (len_50 _).mono ?_; rintro e w' ⟨rfl, rfl⟩)
  go_ret
  exact ⟨rfl, rfl⟩
set_option maxHeartbeats 400000 in
set_option maxRecDepth 100000 in
theorem len64_51 (w : World) : Calls Try.prog 118 #[.int .u64 51] w fun e w' => e = .returned (.int .i64 6) ∧ w' = w := by
  go_enter Try.func118, Try.ntmps118
  go_wp2
  go_ret
  exact ⟨by kernel_rfl, rfl⟩
theorem len_51 (w : World) : Calls Try.prog 103 #[.int .u64 51] w fun e w' => e = .returned (.int .i64 6) ∧ w' = w := by
  go_enter Try.func103, Try.ntmps103
  go_wp2_with (go_at_call 118; refine (len64_51 _).mono ?_; rintro e w' ⟨rfl, rfl⟩)
  go_ret
  exact ⟨rfl, rfl⟩
theorem mark_52 (w : World) : Calls Try.prog 97 #[.int .i64 52] w fun e w' => e = .returned (.int .i64 32) ∧ w' = w := by
  go_enter Try.func97, Try.ntmps97
  go_wp2_with (go_at_call 103; refine (len_51 _).mono ?_; rintro e w' ⟨rfl, rfl⟩)
  go_ret
  exact ⟨rfl, rfl⟩
set_option maxHeartbeats 400000 in
set_option maxRecDepth 100000 in
theorem len64_52 (w : World) : Calls Try.prog 118 #[.int .u64 52] w fun e w' => e = .returned (.int .i64 6) ∧ w' = w := by
  go_enter Try.func118, Try.ntmps118
  go_wp2
  go_ret
  exact ⟨by kernel_rfl, rfl⟩
theorem len_52 (w : World) : Calls Try.prog 103 #[.int .u64 52] w fun e w' => e = .returned (.int .i64 6) ∧ w' = w := by
  go_enter Try.func103, Try.ntmps103
  go_wp2_with (go_at_call 118; refine (len64_52 _).mono ?_; rintro e w' ⟨rfl, rfl⟩)
  go_ret
  exact ⟨rfl, rfl⟩
theorem mark_53 (w : World) : Calls Try.prog 97 #[.int .i64 53] w fun e w' => e = .returned (.int .i64 32) ∧ w' = w := by
  go_enter Try.func97, Try.ntmps97
  go_wp2_with (go_at_call 103; refine (len_52 _).mono ?_; rintro e w' ⟨rfl, rfl⟩)
  go_ret
  exact ⟨rfl, rfl⟩
set_option maxHeartbeats 400000 in
set_option maxRecDepth 100000 in
theorem len64_53 (w : World) : Calls Try.prog 118 #[.int .u64 53] w fun e w' => e = .returned (.int .i64 6) ∧ w' = w := by
  go_enter Try.func118, Try.ntmps118
  go_wp2
  go_ret
  exact ⟨by kernel_rfl, rfl⟩
theorem len_53 (w : World) : Calls Try.prog 103 #[.int .u64 53] w fun e w' => e = .returned (.int .i64 6) ∧ w' = w := by
  go_enter Try.func103, Try.ntmps103
  go_wp2_with (go_at_call 118; refine (len64_53 _).mono ?_; rintro e w' ⟨rfl, rfl⟩)
  go_ret
  exact ⟨rfl, rfl⟩
theorem mark_54 (w : World) : Calls Try.prog 97 #[.int .i64 54] w fun e w' => e = .returned (.int .i64 32) ∧ w' = w := by
  go_enter Try.func97, Try.ntmps97
  go_wp2_with (go_at_call 103; refine (len_53 _).mono ?_; rintro e w' ⟨rfl, rfl⟩)
  go_ret
  exact ⟨rfl, rfl⟩
set_option maxHeartbeats 400000 in
set_option maxRecDepth 100000 in
theorem len64_54 (w : World) : Calls Try.prog 118 #[.int .u64 54] w fun e w' => e = .returned (.int .i64 6) ∧ w' = w := by
  go_enter Try.func118, Try.ntmps118
  go_wp2
  go_ret
  exact ⟨by kernel_rfl, rfl⟩
theorem len_54 (w : World) : Calls Try.prog 103 #[.int .u64 54] w fun e w' => e = .returned (.int .i64 6) ∧ w' = w := by
  go_enter Try.func103, Try.ntmps103
  go_wp2_with (go_at_call 118; refine (len64_54 _).mono ?_; rintro e w' ⟨rfl, rfl⟩)
  go_ret
  exact ⟨rfl, rfl⟩
theorem mark_55 (w : World) : Calls Try.prog 97 #[.int .i64 55] w fun e w' => e = .returned (.int .i64 32) ∧ w' = w := by
  go_enter Try.func97, Try.ntmps97
  go_wp2_with (go_at_call 103; refine (len_54 _).mono ?_; rintro e w' ⟨rfl, rfl⟩)
  go_ret
  exact ⟨rfl, rfl⟩
set_option maxHeartbeats 400000 in
set_option maxRecDepth 100000 in
theorem len64_55 (w : World) : Calls Try.prog 118 #[.int .u64 55] w fun e w' => e = .returned (.int .i64 6) ∧ w' = w := by
  go_enter Try.func118, Try.ntmps118
  go_wp2
  go_ret
  exact ⟨by kernel_rfl, rfl⟩
theorem len_55 (w : World) : Calls Try.prog 103 #[.int .u64 55] w fun e w' => e = .returned (.int .i64 6) ∧ w' = w := by
  go_enter Try.func103, Try.ntmps103
  go_wp2_with (go_at_call 118; refine (len64_55 _).mono ?_; rintro e w' ⟨rfl, rfl⟩)
  go_ret
  exact ⟨rfl, rfl⟩
theorem mark_56 (w : World) : Calls Try.prog 97 #[.int .i64 56] w fun e w' => e = .returned (.int .i64 32) ∧ w' = w := by
  go_enter Try.func97, Try.ntmps97
  go_wp2_with (go_at_call 103; refine (len_55 _).mono ?_; rintro e w' ⟨rfl, rfl⟩)
  go_ret
  exact ⟨rfl, rfl⟩
set_option maxHeartbeats 400000 in
set_option maxRecDepth 100000 in
theorem len64_56 (w : World) : Calls Try.prog 118 #[.int .u64 56] w fun e w' => e = .returned (.int .i64 6) ∧ w' = w := by
  go_enter Try.func118, Try.ntmps118
  go_wp2
  go_ret
  exact ⟨by kernel_rfl, rfl⟩
theorem len_56 (w : World) : Calls Try.prog 103 #[.int .u64 56] w fun e w' => e = .returned (.int .i64 6) ∧ w' = w := by
  go_enter Try.func103, Try.ntmps103
  go_wp2_with (go_at_call 118; refine (len64_56 _).mono ?_; rintro e w' ⟨rfl, rfl⟩)
  go_ret
  exact ⟨rfl, rfl⟩
theorem mark_57 (w : World) : Calls Try.prog 97 #[.int .i64 57] w fun e w' => e = .returned (.int .i64 32) ∧ w' = w := by
  go_enter Try.func97, Try.ntmps97
  go_wp2_with (go_at_call 103; refine (len_56 _).mono ?_; rintro e w' ⟨rfl, rfl⟩)
  go_ret
  exact ⟨rfl, rfl⟩
set_option maxHeartbeats 400000 in
set_option maxRecDepth 100000 in
theorem len64_57 (w : World) : Calls Try.prog 118 #[.int .u64 57] w fun e w' => e = .returned (.int .i64 6) ∧ w' = w := by
  go_enter Try.func118, Try.ntmps118
  go_wp2
  go_ret
  exact ⟨by kernel_rfl, rfl⟩
theorem len_57 (w : World) : Calls Try.prog 103 #[.int .u64 57] w fun e w' => e = .returned (.int .i64 6) ∧ w' = w := by
  go_enter Try.func103, Try.ntmps103
  go_wp2_with (go_at_call 118; refine (len64_57 _).mono ?_; rintro e w' ⟨rfl, rfl⟩)
  go_ret
  exact ⟨rfl, rfl⟩
theorem mark_58 (w : World) : Calls Try.prog 97 #[.int .i64 58] w fun e w' => e = .returned (.int .i64 32) ∧ w' = w := by
  go_enter Try.func97, Try.ntmps97
  go_wp2_with (go_at_call 103; refine (len_57 _).mono ?_; rintro e w' ⟨rfl, rfl⟩)
  go_ret
  exact ⟨rfl, rfl⟩
set_option maxHeartbeats 400000 in
set_option maxRecDepth 100000 in
theorem len64_58 (w : World) : Calls Try.prog 118 #[.int .u64 58] w fun e w' => e = .returned (.int .i64 6) ∧ w' = w := by
  go_enter Try.func118, Try.ntmps118
  go_wp2
  go_ret
  exact ⟨by kernel_rfl, rfl⟩
theorem len_58 (w : World) : Calls Try.prog 103 #[.int .u64 58] w fun e w' => e = .returned (.int .i64 6) ∧ w' = w := by
  go_enter Try.func103, Try.ntmps103
  go_wp2_with (go_at_call 118; refine (len64_58 _).mono ?_; rintro e w' ⟨rfl, rfl⟩)
  go_ret
  exact ⟨rfl, rfl⟩
theorem mark_59 (w : World) : Calls Try.prog 97 #[.int .i64 59] w fun e w' => e = .returned (.int .i64 32) ∧ w' = w := by
  go_enter Try.func97, Try.ntmps97
  go_wp2_with (go_at_call 103; refine (len_58 _).mono ?_; rintro e w' ⟨rfl, rfl⟩)
  go_ret
  exact ⟨rfl, rfl⟩
set_option maxHeartbeats 400000 in
set_option maxRecDepth 100000 in
theorem len64_59 (w : World) : Calls Try.prog 118 #[.int .u64 59] w fun e w' => e = .returned (.int .i64 6) ∧ w' = w := by
  go_enter Try.func118, Try.ntmps118
  go_wp2
  go_ret
  exact ⟨by kernel_rfl, rfl⟩
theorem len_59 (w : World) : Calls Try.prog 103 #[.int .u64 59] w fun e w' => e = .returned (.int .i64 6) ∧ w' = w := by
  go_enter Try.func103, Try.ntmps103
  go_wp2_with (go_at_call 118; refine (len64_59 _).mono ?_; rintro e w' ⟨rfl, rfl⟩)
  go_ret
  exact ⟨rfl, rfl⟩
theorem mark_60 (w : World) : Calls Try.prog 97 #[.int .i64 60] w fun e w' => e = .returned (.int .i64 32) ∧ w' = w := by
  go_enter Try.func97, Try.ntmps97
  go_wp2_with (go_at_call 103; refine (len_59 _).mono ?_; rintro e w' ⟨rfl, rfl⟩)
  go_ret
  exact ⟨rfl, rfl⟩
set_option maxHeartbeats 400000 in
set_option maxRecDepth 100000 in
theorem len64_60 (w : World) : Calls Try.prog 118 #[.int .u64 60] w fun e w' => e = .returned (.int .i64 6) ∧ w' = w := by
  go_enter Try.func118, Try.ntmps118
  go_wp2
  go_ret
  exact ⟨by kernel_rfl, rfl⟩
theorem len_60 (w : World) : Calls Try.prog 103 #[.int .u64 60] w fun e w' => e = .returned (.int .i64 6) ∧ w' = w := by
  go_enter Try.func103, Try.ntmps103
  go_wp2_with (go_at_call 118; refine (len64_60 _).mono ?_; rintro e w' ⟨rfl, rfl⟩)
  go_ret
  exact ⟨rfl, rfl⟩
theorem mark_61 (w : World) : Calls Try.prog 97 #[.int .i64 61] w fun e w' => e = .returned (.int .i64 32) ∧ w' = w := by
  go_enter Try.func97, Try.ntmps97
  go_wp2_with (go_at_call 103; refine (len_60 _).mono ?_; rintro e w' ⟨rfl, rfl⟩)
  go_ret
  exact ⟨rfl, rfl⟩
set_option maxHeartbeats 400000 in
set_option maxRecDepth 100000 in
theorem len64_61 (w : World) : Calls Try.prog 118 #[.int .u64 61] w fun e w' => e = .returned (.int .i64 6) ∧ w' = w := by
  go_enter Try.func118, Try.ntmps118
  go_wp2
  go_ret
  exact ⟨by kernel_rfl, rfl⟩
theorem len_61 (w : World) : Calls Try.prog 103 #[.int .u64 61] w fun e w' => e = .returned (.int .i64 6) ∧ w' = w := by
  go_enter Try.func103, Try.ntmps103
  go_wp2_with (go_at_call 118; refine (len64_61 _).mono ?_; rintro e w' ⟨rfl, rfl⟩)
  go_ret
  exact ⟨rfl, rfl⟩
theorem mark_62 (w : World) : Calls Try.prog 97 #[.int .i64 62] w fun e w' => e = .returned (.int .i64 32) ∧ w' = w := by
  go_enter Try.func97, Try.ntmps97
  go_wp2_with (go_at_call 103; refine (len_61 _).mono ?_; rintro e w' ⟨rfl, rfl⟩)
  go_ret
  exact ⟨rfl, rfl⟩
/-- What mark tells is the number of one that is open. -/
def MarkR (n : Nat) (w : World) (e : Ending) (w' : World) : Prop := ∃ m : Nat, m < n ∧ e = .returned (.int .i64 m) ∧ w' = w
theorem mark_any (w : World) : ∀ (n : Nat), 1 ≤ n → n ≤ 62 → Calls Try.prog 97 #[.int .i64 n] w fun e w' => MarkR n w e w'
  | 0, h, _ => absurd h (by decide)
  | 1, _, _ => (mark_1 w).mono fun e w' h => ⟨0, by decide, h.1, h.2⟩
  | 2, _, _ => (mark_2 w).mono fun e w' h => ⟨1, by decide, h.1, h.2⟩
  | 3, _, _ => (mark_3 w).mono fun e w' h => ⟨2, by decide, h.1, h.2⟩
  | 4, _, _ => (mark_4 w).mono fun e w' h => ⟨2, by decide, h.1, h.2⟩
  | 5, _, _ => (mark_5 w).mono fun e w' h => ⟨4, by decide, h.1, h.2⟩
  | 6, _, _ => (mark_6 w).mono fun e w' h => ⟨4, by decide, h.1, h.2⟩
  | 7, _, _ => (mark_7 w).mono fun e w' h => ⟨4, by decide, h.1, h.2⟩
  | 8, _, _ => (mark_8 w).mono fun e w' h => ⟨4, by decide, h.1, h.2⟩
  | 9, _, _ => (mark_9 w).mono fun e w' h => ⟨8, by decide, h.1, h.2⟩
  | 10, _, _ => (mark_10 w).mono fun e w' h => ⟨8, by decide, h.1, h.2⟩
  | 11, _, _ => (mark_11 w).mono fun e w' h => ⟨8, by decide, h.1, h.2⟩
  | 12, _, _ => (mark_12 w).mono fun e w' h => ⟨8, by decide, h.1, h.2⟩
  | 13, _, _ => (mark_13 w).mono fun e w' h => ⟨8, by decide, h.1, h.2⟩
  | 14, _, _ => (mark_14 w).mono fun e w' h => ⟨8, by decide, h.1, h.2⟩
  | 15, _, _ => (mark_15 w).mono fun e w' h => ⟨8, by decide, h.1, h.2⟩
  | 16, _, _ => (mark_16 w).mono fun e w' h => ⟨8, by decide, h.1, h.2⟩
  | 17, _, _ => (mark_17 w).mono fun e w' h => ⟨16, by decide, h.1, h.2⟩
  | 18, _, _ => (mark_18 w).mono fun e w' h => ⟨16, by decide, h.1, h.2⟩
  | 19, _, _ => (mark_19 w).mono fun e w' h => ⟨16, by decide, h.1, h.2⟩
  | 20, _, _ => (mark_20 w).mono fun e w' h => ⟨16, by decide, h.1, h.2⟩
  | 21, _, _ => (mark_21 w).mono fun e w' h => ⟨16, by decide, h.1, h.2⟩
  | 22, _, _ => (mark_22 w).mono fun e w' h => ⟨16, by decide, h.1, h.2⟩
  | 23, _, _ => (mark_23 w).mono fun e w' h => ⟨16, by decide, h.1, h.2⟩
  | 24, _, _ => (mark_24 w).mono fun e w' h => ⟨16, by decide, h.1, h.2⟩
  | 25, _, _ => (mark_25 w).mono fun e w' h => ⟨16, by decide, h.1, h.2⟩
  | 26, _, _ => (mark_26 w).mono fun e w' h => ⟨16, by decide, h.1, h.2⟩
  | 27, _, _ => (mark_27 w).mono fun e w' h => ⟨16, by decide, h.1, h.2⟩
  | 28, _, _ => (mark_28 w).mono fun e w' h => ⟨16, by decide, h.1, h.2⟩
  | 29, _, _ => (mark_29 w).mono fun e w' h => ⟨16, by decide, h.1, h.2⟩
  | 30, _, _ => (mark_30 w).mono fun e w' h => ⟨16, by decide, h.1, h.2⟩
  | 31, _, _ => (mark_31 w).mono fun e w' h => ⟨16, by decide, h.1, h.2⟩
  | 32, _, _ => (mark_32 w).mono fun e w' h => ⟨16, by decide, h.1, h.2⟩
  | 33, _, _ => (mark_33 w).mono fun e w' h => ⟨32, by decide, h.1, h.2⟩
  | 34, _, _ => (mark_34 w).mono fun e w' h => ⟨32, by decide, h.1, h.2⟩
  | 35, _, _ => (mark_35 w).mono fun e w' h => ⟨32, by decide, h.1, h.2⟩
  | 36, _, _ => (mark_36 w).mono fun e w' h => ⟨32, by decide, h.1, h.2⟩
  | 37, _, _ => (mark_37 w).mono fun e w' h => ⟨32, by decide, h.1, h.2⟩
  | 38, _, _ => (mark_38 w).mono fun e w' h => ⟨32, by decide, h.1, h.2⟩
  | 39, _, _ => (mark_39 w).mono fun e w' h => ⟨32, by decide, h.1, h.2⟩
  | 40, _, _ => (mark_40 w).mono fun e w' h => ⟨32, by decide, h.1, h.2⟩
  | 41, _, _ => (mark_41 w).mono fun e w' h => ⟨32, by decide, h.1, h.2⟩
  | 42, _, _ => (mark_42 w).mono fun e w' h => ⟨32, by decide, h.1, h.2⟩
  | 43, _, _ => (mark_43 w).mono fun e w' h => ⟨32, by decide, h.1, h.2⟩
  | 44, _, _ => (mark_44 w).mono fun e w' h => ⟨32, by decide, h.1, h.2⟩
  | 45, _, _ => (mark_45 w).mono fun e w' h => ⟨32, by decide, h.1, h.2⟩
  | 46, _, _ => (mark_46 w).mono fun e w' h => ⟨32, by decide, h.1, h.2⟩
  | 47, _, _ => (mark_47 w).mono fun e w' h => ⟨32, by decide, h.1, h.2⟩
  | 48, _, _ => (mark_48 w).mono fun e w' h => ⟨32, by decide, h.1, h.2⟩
  | 49, _, _ => (mark_49 w).mono fun e w' h => ⟨32, by decide, h.1, h.2⟩
  | 50, _, _ => (mark_50 w).mono fun e w' h => ⟨32, by decide, h.1, h.2⟩
  | 51, _, _ => (mark_51 w).mono fun e w' h => ⟨32, by decide, h.1, h.2⟩
  | 52, _, _ => (mark_52 w).mono fun e w' h => ⟨32, by decide, h.1, h.2⟩
  | 53, _, _ => (mark_53 w).mono fun e w' h => ⟨32, by decide, h.1, h.2⟩
  | 54, _, _ => (mark_54 w).mono fun e w' h => ⟨32, by decide, h.1, h.2⟩
  | 55, _, _ => (mark_55 w).mono fun e w' h => ⟨32, by decide, h.1, h.2⟩
  | 56, _, _ => (mark_56 w).mono fun e w' h => ⟨32, by decide, h.1, h.2⟩
  | 57, _, _ => (mark_57 w).mono fun e w' h => ⟨32, by decide, h.1, h.2⟩
  | 58, _, _ => (mark_58 w).mono fun e w' h => ⟨32, by decide, h.1, h.2⟩
  | 59, _, _ => (mark_59 w).mono fun e w' h => ⟨32, by decide, h.1, h.2⟩
  | 60, _, _ => (mark_60 w).mono fun e w' h => ⟨32, by decide, h.1, h.2⟩
  | 61, _, _ => (mark_61 w).mono fun e w' h => ⟨32, by decide, h.1, h.2⟩
  | 62, _, _ => (mark_62 w).mono fun e w' h => ⟨32, by decide, h.1, h.2⟩
  | n + 63, _, h => absurd h (by omega)
end Go.Proofs.Ytlhmdbloddpfbaa
