/- JsonEncodes, walked. -/
import Derived.Test.YtbinmhcjadkmgaaDoorJEnc
import Derived.Test.YtbinmhcjadkmgaaDoorJRef
import Derived.Test.YtbinmhcjadkmgaaDoorTOpen
import Derived.Test.YtbinmhcjadkmgaaDoorTRefYes
import Derived.Lib.LaidTab
set_option linter.unusedVariables false
set_option linter.unusedSimpArgs false
namespace Go.Proofs.YtbinmhcjadkmgaaDoor
open Go.RowKit
theorem tabs_of {x : String × DataW Unit} {r : List (String × DataW Unit)} {W : World} (h : laidMet Tryd.prog (x :: ("math/bits.deBruijn64tab", Rows.laid_math_bits_deBruijn64tab) :: ("internal/strconv.uint64pow10", Rows.laid_internal_strconv_uint64pow10) :: r) W) : Tabs W := by
  refine ⟨tab_of h, ?_⟩
  have h2 : laidMet Tryd.prog (("internal/strconv.uint64pow10", Lib.tabData .u64 Lib.pow10Tab) :: r) W := by
    have e : Lib.tabData (H := Unit) .u64 Lib.pow10Tab = Rows.laid_internal_strconv_uint64pow10 := rfl
    rw [e]
    exact h.tail.tail
  exact Lib.tabIs_of_head gPow tyPow Tryd.underlying104 Tryd.underlying83 (by kernel_rfl) (by kernel_rfl) h2
def jends (W : World) (e : Ending) (W' : World) : Prop := e = .returned (.bool true) ∧ Below W.heap.size W W'
set_option maxHeartbeats 1000000 in
set_option maxRecDepth 100000 in
theorem JsonEncodes.walk (W : World) (hT : Tabs W) (a : Va) (h : Hd) (H : Lies W (fun _ => True) a h) : Calls Tryd.prog 3 #[h.val] W (jends W) := by
  have HT := Lib.hid hT
  have HL := Lib.hid H
  clear hT H
  have HB0 := Lib.hid (BoxAt.start W h 25)
  unfold Hd.val
  go_enter Tryd.func3, Tryd.ntmps3
  go_wp2_with fail
  refine (awake_any _ (HT.out.go HB0.out.1)).mono ?_
  rintro e w1 ⟨rfl, hb1⟩
  have HB1 := Lib.hid (HB0.out.go hb1 (Nat.le_refl _))
  clear hb1
  have q0 := HB1.out.2.2 0 _ rfl
  have q1 := HB1.out.2.2 1 _ rfl
  have q2 := HB1.out.2.2 2 _ rfl
  have q3 := HB1.out.2.2 3 _ rfl
  have q4 := HB1.out.2.2 4 _ rfl
  have K := few_ref a _ h w1 (HL.out.below HB1.out.1 (Nat.le_refl _))
  unfold Hd.val at K
  have K := Lib.hid K
  go_wp2_with fail
  refine K.out.mono ?_
  rintro e w2 ⟨r, rfl, hr, hb2⟩
  clear K q0 q1 q2 q3 q4
  have HB2 := Lib.hid (HB1.out.go hb2 (Nat.le_refl _))
  clear hb2
  have q0 := HB2.out.2.2 0 _ rfl
  have q1 := HB2.out.2.2 1 _ rfl
  have q2 := HB2.out.2.2 2 _ rfl
  have q3 := HB2.out.2.2 3 _ rfl
  have q4 := HB2.out.2.2 4 _ rfl
  cases r
  · clear hr q0 q1 q2 q3 q4
    go_wp2_with fail
    refine (awake_any _ (HT.out.go HB2.out.1)).mono ?_
    rintro e w3 ⟨rfl, hb3⟩
    have HB3 := Lib.hid (HB2.out.go hb3 (Nat.le_refl _))
    clear hb3
    go_wp2_with fail
    go_ret
    exact ⟨rfl, HB3.out.1⟩
  obtain ⟨hsh, hcn⟩ := hr rfl
  have HSH := Lib.hid hsh
  have HCN := Lib.hid hcn
  clear hsh hcn hr
  by_cases hR : a.R 12
  · have HR := Lib.hid hR
    obtain ⟨J, hJ⟩ : ∃ J : ByteArray, J = ⟨a.js.toArray⟩ := ⟨_, rfl⟩
    have K2 := encode_yes a h w2 (HL.out.below HB2.out.1 (Nat.le_refl _)) hR HSH.out HCN.out (HT.out.go HB2.out.1)
    rw [← hJ] at K2
    unfold Hd.val at K2
    have K2 := Lib.hid K2
    have HJ := Lib.hid hJ
    have hjj := bytes_eq (rfl : J = J)
    clear hR hJ
    go_wp2_with fail
    refine K2.out.mono ?_
    rintro e w3 ⟨rfl, hb3⟩
    clear K2 q0 q1 q2 q3 q4
    have HB3 := Lib.hid (HB2.out.go hb3 (Nat.le_refl _))
    clear hb3
    have q0 := HB3.out.2.2 0 _ rfl
    have q1 := HB3.out.2.2 1 _ rfl
    have q2 := HB3.out.2.2 2 _ rfl
    have q3 := HB3.out.2.2 3 _ rfl
    have q4 := HB3.out.2.2 4 _ rfl
    have K3 := rightref a _ h w3 (HL.out.below HB3.out.1 (Nat.le_refl _)) HSH.out
    unfold Hd.val at K3
    have K3 := Lib.hid K3
    go_wp2_with fail
    refine K3.out.mono ?_
    rintro e w4 ⟨r, rfl, hr, hb4⟩
    obtain rfl : r = true := hr.2 HR.out
    clear K3 hr q0 q1 q2 q3 q4
    have HB4 := Lib.hid (HB3.out.go hb4 (Nat.le_refl _))
    clear hb4
    have q0 := HB4.out.2.2 0 _ rfl
    have q1 := HB4.out.2.2 1 _ rfl
    have q2 := HB4.out.2.2 2 _ rfl
    have q3 := HB4.out.2.2 3 _ rfl
    have q4 := HB4.out.2.2 4 _ rfl
    have K4 := encode_ref a _ h w4 12 (HL.out.below HB4.out.1 (Nat.le_refl _)) HR.out HSH.out (by have := js_len HR.out HSH.out; have := HCN.out; omega)
    rw [← HJ.out] at K4
    unfold Hd.val at K4
    have K4 := Lib.hid K4
    go_wp2_with fail
    refine K4.out.mono ?_
    rintro e w5 ⟨rfl, hb5⟩
    have HB5 := Lib.hid (HB4.out.go hb5 (Nat.le_refl _))
    clear K4 hb5 q0 q1 q2 q3 q4
    go_wp2_with fail
    go_ret
    exact ⟨rfl, HB5.out.1⟩
  · have HR := Lib.hid hR
    have K2 := encode_no a h w2 (HL.out.below HB2.out.1 (Nat.le_refl _)) hR HSH.out HCN.out
    unfold Hd.val at K2
    have K2 := Lib.hid K2
    clear hR
    go_wp2_with fail
    refine K2.out.mono ?_
    rintro e w3 ⟨rfl, hb3⟩
    clear K2 q0 q1 q2 q3 q4
    have HB3 := Lib.hid (HB2.out.go hb3 (Nat.le_refl _))
    clear hb3
    have q0 := HB3.out.2.2 0 _ rfl
    have q1 := HB3.out.2.2 1 _ rfl
    have q2 := HB3.out.2.2 2 _ rfl
    have q3 := HB3.out.2.2 3 _ rfl
    have q4 := HB3.out.2.2 4 _ rfl
    have K3 := rightref a _ h w3 (HL.out.below HB3.out.1 (Nat.le_refl _)) HSH.out
    unfold Hd.val at K3
    have K3 := Lib.hid K3
    go_wp2_with fail
    refine K3.out.mono ?_
    rintro e w4 ⟨r, rfl, hr, hb4⟩
    obtain rfl : r = false := by cases r; rfl; exact absurd (hr.1 rfl) HR.out
    have HB4 := Lib.hid (HB3.out.go hb4 (Nat.le_refl _))
    clear K3 hr hb4 q0 q1 q2 q3 q4
    go_wp2_with fail
    go_ret
    exact ⟨rfl, HB4.out.1⟩
end Go.Proofs.YtbinmhcjadkmgaaDoor
