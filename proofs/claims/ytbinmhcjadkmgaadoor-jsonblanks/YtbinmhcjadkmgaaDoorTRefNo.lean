/- The reference's right, of a value that is wrong by itself. -/
import Derived.Test.YtbinmhcjadkmgaaDoorTRight
set_option linter.unusedVariables false
set_option linter.unusedSimpArgs false
namespace Go.Proofs.YtbinmhcjadkmgaaDoor
open Go.RowKit
set_option maxHeartbeats 2000000 in
set_option maxRecDepth 100000 in
theorem right_no (h : Hd) (w : World) (d : Nat) (hd : d ≤ 100) (hs5 : h.s.size ≤ 500) (b5' : h.la ≤ 9223372036854775807) (b6' : h.lf ≤ 9223372036854775807) (hb : (-9223372036854775808 ≤ h.n ∧ h.n ≤ 9223372036854775807)) (hno : ¬ (1 ≤ d ∧ TopP h.k h.n h.s h.la h.lf)) :
    Calls Tryd.prog 18 #[h.val, .int .i64 d] w fun e w' => e = .returned (.bool false) ∧ Below w.heap.size w w' := by
  obtain ⟨hk, hnn, hs, A, la, lc, F, lf, fc⟩ := h
  unfold Hd.val
  simp only at hno hs5 b5' b6' hb ⊢
  obtain ⟨hb1, hb2⟩ := hb
  have HNO := Lib.hid hno
  clear hno
  have hb0 : ∀ o1, Below w.heap.size w (w.alloc o1) := fun o1 => (Below.refl _ _).alloc (Nat.le_refl _) _
  have HB0 := Lib.hid hb0
  clear hb0
  by_cases h1 : d < 1
  · go_enter Tryd.func18, Tryd.ntmps18
    go_wp2_with fail
    go_ret
    exact ⟨rfl, HB0.out _⟩
  by_cases h2 : hk < 0
  · go_enter Tryd.func18, Tryd.ntmps18
    go_wp2_with fail
    go_ret
    exact ⟨rfl, HB0.out _⟩
  by_cases h3 : 5 < hk
  · go_enter Tryd.func18, Tryd.ntmps18
    go_wp2_with fail
    go_ret
    exact ⟨rfl, HB0.out _⟩
  have HKK := Lib.hid (show hk = 0 ∨ hk = 1 ∨ hk = 2 ∨ hk = 3 ∨ hk = 4 ∨ hk = 5 by omega)
  by_cases c1 : hk ≠ 1 ∧ hk ≠ 2 ∧ hnn ≠ 0
  · clear HNO
    rcases HKK.out with rfl | rfl | rfl | rfl | rfl | rfl
    · have c13 : hnn ≠ 0 := by omega
      clear c1
      go_enter Tryd.func18, Tryd.ntmps18
      go_wp2_with fail
      go_ret
      exact ⟨rfl, HB0.out _⟩
    · exfalso; omega
    · exfalso; omega
    · have c13 : hnn ≠ 0 := by omega
      clear c1
      go_enter Tryd.func18, Tryd.ntmps18
      go_wp2_with fail
      go_ret
      exact ⟨rfl, HB0.out _⟩
    · have c13 : hnn ≠ 0 := by omega
      clear c1
      go_enter Tryd.func18, Tryd.ntmps18
      go_wp2_with fail
      go_ret
      exact ⟨rfl, HB0.out _⟩
    · have c13 : hnn ≠ 0 := by omega
      clear c1
      go_enter Tryd.func18, Tryd.ntmps18
      go_wp2_with fail
      go_ret
      exact ⟨rfl, HB0.out _⟩
  by_cases c2 : hk ≠ 3 ∧ hs.size ≠ 0
  · clear HNO
    rcases HKK.out with rfl | rfl | rfl | rfl | rfl | rfl
    · obtain rfl : hnn = 0 := by omega
      have c22 : hs.size ≠ 0 := by omega
      have c23 := ne_empty c22
      clear c1 c2
      go_enter Tryd.func18, Tryd.ntmps18
      go_wp2_with fail
      go_ret
      exact ⟨rfl, HB0.out _⟩
    · have c22 : hs.size ≠ 0 := by omega
      have c23 := ne_empty c22
      clear c1 c2
      go_enter Tryd.func18, Tryd.ntmps18
      go_wp2_with fail
      go_ret
      exact ⟨rfl, HB0.out _⟩
    · have c22 : hs.size ≠ 0 := by omega
      have c23 := ne_empty c22
      clear c1 c2
      go_enter Tryd.func18, Tryd.ntmps18
      go_wp2_with fail
      go_ret
      exact ⟨rfl, HB0.out _⟩
    · exfalso; omega
    · obtain rfl : hnn = 0 := by omega
      have c22 : hs.size ≠ 0 := by omega
      have c23 := ne_empty c22
      clear c1 c2
      go_enter Tryd.func18, Tryd.ntmps18
      go_wp2_with fail
      go_ret
      exact ⟨rfl, HB0.out _⟩
    · obtain rfl : hnn = 0 := by omega
      have c22 : hs.size ≠ 0 := by omega
      have c23 := ne_empty c22
      clear c1 c2
      go_enter Tryd.func18, Tryd.ntmps18
      go_wp2_with fail
      go_ret
      exact ⟨rfl, HB0.out _⟩
  by_cases c3 : hk ≠ 4 ∧ 0 < la
  · clear HNO
    rcases HKK.out with rfl | rfl | rfl | rfl | rfl | rfl
    · obtain rfl : hnn = 0 := by omega
      obtain rfl : hs = ByteArray.empty := empty_of (by omega)
      have c33 : 0 < la := by omega
      clear c1 c2 c3
      go_enter Tryd.func18, Tryd.ntmps18
      go_wp2_with fail
      go_ret
      exact ⟨rfl, HB0.out _⟩
    · obtain rfl : hs = ByteArray.empty := empty_of (by omega)
      have c33 : 0 < la := by omega
      clear c1 c2 c3
      go_enter Tryd.func18, Tryd.ntmps18
      go_wp2_with fail
      go_ret
      exact ⟨rfl, HB0.out _⟩
    · obtain rfl : hs = ByteArray.empty := empty_of (by omega)
      have c33 : 0 < la := by omega
      clear c1 c2 c3
      go_enter Tryd.func18, Tryd.ntmps18
      go_wp2_with fail
      go_ret
      exact ⟨rfl, HB0.out _⟩
    · obtain rfl : hnn = 0 := by omega
      have c33 : 0 < la := by omega
      clear c1 c2 c3
      go_enter Tryd.func18, Tryd.ntmps18
      go_wp2_with fail
      go_ret
      exact ⟨rfl, HB0.out _⟩
    · exfalso; omega
    · obtain rfl : hnn = 0 := by omega
      obtain rfl : hs = ByteArray.empty := empty_of (by omega)
      have c33 : 0 < la := by omega
      clear c1 c2 c3
      go_enter Tryd.func18, Tryd.ntmps18
      go_wp2_with fail
      go_ret
      exact ⟨rfl, HB0.out _⟩
  by_cases c4 : hk ≠ 5 ∧ 0 < lf
  · clear HNO
    rcases HKK.out with rfl | rfl | rfl | rfl | rfl | rfl
    · obtain rfl : hnn = 0 := by omega
      obtain rfl : hs = ByteArray.empty := empty_of (by omega)
      obtain rfl : la = 0 := by omega
      have c43 : 0 < lf := by omega
      clear c1 c2 c3 c4
      go_enter Tryd.func18, Tryd.ntmps18
      go_wp2_with fail
      go_ret
      exact ⟨rfl, HB0.out _⟩
    · obtain rfl : hs = ByteArray.empty := empty_of (by omega)
      obtain rfl : la = 0 := by omega
      have c43 : 0 < lf := by omega
      clear c1 c2 c3 c4
      go_enter Tryd.func18, Tryd.ntmps18
      go_wp2_with fail
      go_ret
      exact ⟨rfl, HB0.out _⟩
    · obtain rfl : hs = ByteArray.empty := empty_of (by omega)
      obtain rfl : la = 0 := by omega
      have c43 : 0 < lf := by omega
      clear c1 c2 c3 c4
      go_enter Tryd.func18, Tryd.ntmps18
      go_wp2_with fail
      go_ret
      exact ⟨rfl, HB0.out _⟩
    · obtain rfl : hnn = 0 := by omega
      obtain rfl : la = 0 := by omega
      have c43 : 0 < lf := by omega
      clear c1 c2 c3 c4
      go_enter Tryd.func18, Tryd.ntmps18
      go_wp2_with fail
      go_ret
      exact ⟨rfl, HB0.out _⟩
    · obtain rfl : hnn = 0 := by omega
      obtain rfl : hs = ByteArray.empty := empty_of (by omega)
      have c43 : 0 < lf := by omega
      clear c1 c2 c3 c4
      go_enter Tryd.func18, Tryd.ntmps18
      go_wp2_with fail
      go_ret
      exact ⟨rfl, HB0.out _⟩
    · exfalso; omega
  have hr1 : Hid (hk ≠ 3 → rightB hs = true) := fun h => by
    have : hs = ByteArray.empty := empty_of (by omega)
    rw [this]; exact rightB_empty
  by_cases c5 : hk = 1 ∧ hnn ≠ 0 ∧ hnn ≠ 1
  · clear HNO
    rcases HKK.out with rfl | rfl | rfl | rfl | rfl | rfl
    · exfalso; omega
    · obtain rfl : hs = ByteArray.empty := empty_of (by omega)
      obtain rfl : la = 0 := by omega
      obtain rfl : lf = 0 := by omega
      have c53 : hnn ≠ 0 := by omega
      have c54 : hnn ≠ 1 := by omega
      clear c1 c2 c3 c4 c5 hr1
      go_enter Tryd.func18, Tryd.ntmps18
      go_wp2_with fail
      go_ret
      exact ⟨rfl, HB0.out _⟩
    · exfalso; omega
    · exfalso; omega
    · exfalso; omega
    · exfalso; omega
  by_cases c6 : 9007199254740991 < hnn
  · clear HNO
    rcases HKK.out with rfl | rfl | rfl | rfl | rfl | rfl
    · exfalso; omega
    · exfalso; omega
    · obtain rfl : hs = ByteArray.empty := empty_of (by omega)
      obtain rfl : la = 0 := by omega
      obtain rfl : lf = 0 := by omega
      clear c1 c2 c3 c4 c5 hr1
      go_enter Tryd.func18, Tryd.ntmps18
      go_wp2_with fail
      go_ret
      exact ⟨rfl, HB0.out _⟩
    · exfalso; omega
    · exfalso; omega
    · exfalso; omega
  by_cases c7 : hnn < -9007199254740991
  · clear HNO
    rcases HKK.out with rfl | rfl | rfl | rfl | rfl | rfl
    · exfalso; omega
    · exfalso; omega
    · obtain rfl : hs = ByteArray.empty := empty_of (by omega)
      obtain rfl : la = 0 := by omega
      obtain rfl : lf = 0 := by omega
      clear c1 c2 c3 c4 c5 hr1
      go_enter Tryd.func18, Tryd.ntmps18
      go_wp2_with fail
      go_ret
      exact ⟨rfl, HB0.out _⟩
    · exfalso; omega
    · exfalso; omega
    · exfalso; omega
  cases hr : rightB hs
  · have h3 : hk = 3 := by
      rcases (by omega : hk = 3 ∨ hk ≠ 3) with h | h
      · exact h
      · have := hr1.out h; rw [hr] at this; cases this
    subst h3
    obtain rfl : hnn = 0 := by omega
    obtain rfl : la = 0 := by omega
    obtain rfl : lf = 0 := by omega
    clear c1 c2 c3 c4 c5 HKK HNO hr1
    have HRR := Lib.hid hr
    clear hr
    go_enter Tryd.func18, Tryd.ntmps18
    go_wp2_with fail
    refine (right_ref hs (by omega) _).mono ?_
    rintro e w1 ⟨rfl, rfl⟩
    rw [HRR.out]
    go_wp2_with fail
    go_ret
    exact ⟨rfl, HB0.out _⟩
  · exact absurd ⟨by omega, ⟨by omega, by omega, c1, c2, c3, c4, c5, by omega, by omega, hr⟩⟩ HNO.out
end Go.Proofs.YtbinmhcjadkmgaaDoor
