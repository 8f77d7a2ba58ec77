/- cmp.Compare of texts, and the comparison that tree.sorted gives to the sort. -/
import Derived.Test.YtlhmdbloddpfbaaTAlkS
import Derived.Laws.Cover1
import Derived.Shelf.SlSortCmp.InsertionK
set_option linter.unusedVariables false
set_option linter.unusedSimpArgs false
namespace Go.Proofs.Ytlhmdbloddpfbaa
open Go.RowKit
def cmpB (x y : ByteArray) : Int := if lessB x y = true then -1 else if x = y then 0 else 1
set_option maxHeartbeats 400000 in
theorem nan_str (x : ByteArray) (w : World) : Calls Try.prog 104 #[.string x] w fun e w' => e = .returned (.bool false) ∧ w' = w := by
  have h1 := bytes_eq (rfl : x = x)
  go_enter Try.func104, Try.ntmps104
  go_wp2
  go_ret
  exact ⟨by simp, rfl⟩
set_option maxHeartbeats 400000 in
theorem compare_str (x y : ByteArray) (w : World) : Calls Try.prog 89 #[.string x, .string y] w fun e w' => e = .returned (.int .i64 (cmpB x y)) ∧ w' = w := by
  by_cases h1 : lessB x y = true
  · have hc := Lib.hid (show cmpB x y = -1 by unfold cmpB; rw [if_pos h1])
    have hl : Op.bytesLess x.toList y.toList = true := h1
    go_enter Try.func89, Try.ntmps89
    go_wp2_with (go_at_call 104; refine (nan_str _ _).mono ?_; rintro e w1 ⟨rfl, rfl⟩)
    go_ret
    exact ⟨by rw [hc.out]; rfl, rfl⟩
  · have hl : Op.bytesLess x.toList y.toList = false := by simpa [lessB] using h1
    by_cases h2 : x = y
    · have hc := Lib.hid (show cmpB x y = 0 by unfold cmpB; rw [if_neg h1, if_pos h2])
      have hq := bytes_eq h2
      clear h2
      go_enter Try.func89, Try.ntmps89
      go_wp2_with (go_at_call 104; refine (nan_str _ _).mono ?_; rintro e w1 ⟨rfl, rfl⟩)
      go_ret
      exact ⟨by rw [hc.out]; rfl, rfl⟩
    · have hc := Lib.hid (show cmpB x y = 1 by unfold cmpB; rw [if_neg h1, if_neg h2])
      have hq := bytes_ne h2
      clear h2
      go_enter Try.func89, Try.ntmps89
      go_wp2_with (go_at_call 104; refine (nan_str _ _).mono ?_; rintro e w1 ⟨rfl, rfl⟩)
      go_ret
      exact ⟨by rw [hc.out]; rfl, rfl⟩
def cfE (x y : El) : Int := cmpB x.key y.key
theorem ltE (x y : El) : Go.Proofs.ltOf cfE x y = lessB x.key y.key := by
  unfold Go.Proofs.ltOf cfE cmpB
  by_cases h1 : lessB x.key y.key = true
  · simp [h1]
  · by_cases h2 : x.key = y.key <;> simp [h1, h2, lessB_irrefl]
theorem swoE : Go.Sort.SWO (Go.Proofs.ltOf cfE) where
  irrefl x := by rw [ltE]; exact lessB_irrefl _
  trans x y z h1 h2 := by rw [ltE] at *; exact lessB_trans h1 h2
  ntrans x y z h1 h2 := by rw [ltE] at *; exact lessB_ntrans h1 h2
set_option maxHeartbeats 1000000 in
theorem clos_cmp (x y : El) (W : World) : Calls Try.prog 88 #[.agg #[.string x.key, .int .i64 x.u.k, .int .i64 x.u.n, .string x.u.s, .slice x.u.A x.u.la x.u.lc, .slice x.u.F x.u.lf x.u.fc], .agg #[.string y.key, .int .i64 y.u.k, .int .i64 y.u.n, .string y.u.s, .slice y.u.A y.u.la y.u.lc, .slice y.u.F y.u.lf y.u.fc]] W fun e w' => e = .returned (.int .i64 (cfE x y)) ∧ ∃ q os', w' = Go.Sort.grow (W.drewN q) os' := by
  have hcon := fun W' => compare_str x.key y.key W'
  have hr : cmpB x.key y.key = cfE x y := rfl
  rw [hr] at hcon
  clear hr
  generalize cfE x y = r at hcon ⊢
  go_enter Try.func88, Try.ntmps88
  go_wp2_with (go_at_call 89; refine (hcon _).mono ?_; rintro e w' ⟨rfl, rfl⟩)
  go_ret
  exact ⟨rfl, 0, _, by rw [Go.Sort.alloc_eq_grow, Go.Sort.alloc_eq_grow, Go.Sort.grow_grow]; rfl⟩
theorem cmp_lays (blk off size : Nat) (w : World) : Go.Proofs.CmpLays Try.prog 88 #[] encE 6 cfE blk off size w := fun _ _ _ _ x y => clos_cmp x y _
end Go.Proofs.Ytlhmdbloddpfbaa
