/- The law's helpers: awake, Few, Right, zero; and an argument opened. -/
import Derived.Test.YtbinmhcjadkmgaaDoorTProgR
import Derived.Test.YtbinmhcjadkmgaaDoorTRefYes
import Derived.Deep.Slices
import Derived.Deep.Fields
import Derived.Lib.SmallJoins
set_option linter.unusedVariables false
set_option linter.unusedSimpArgs false
namespace Go.Proofs.YtbinmhcjadkmgaaDoor
open Go.RowKit
theorem lies_leaf (w : World) (S : Nat → Prop) (k n : Int) (hk : -9223372036854775808 ≤ k ∧ k ≤ 9223372036854775807) (hn : -9223372036854775808 ≤ n ∧ n ≤ 9223372036854775807) : Lies w S (.mk k n ByteArray.empty [] [] []) ⟨k, n, ByteArray.empty, none, 0, 0, none, 0, 0⟩ := by
  unfold Lies
  refine ⟨⟨rfl, rfl, rfl, rfl, rfl, rfl⟩, ⟨hk, hn, by decide, by simp, by decide, by decide, Nat.le_refl 0, Nat.le_refl 0⟩, ⟨[], fun h => by simp at h, ?_⟩, ⟨[], fun h => by simp at h, ?_⟩⟩
  · unfold LiesL; rfl
  · unfold LiesL; rfl
abbrev zeroVa : Va := .mk 0 0 ByteArray.empty [] [] []
abbrev zeroHd : Hd := ⟨0, 0, ByteArray.empty, none, 0, 0, none, 0, 0⟩
theorem lies_zero (w : World) (S : Nat → Prop) : Lies w S zeroVa zeroHd := lies_leaf w S 0 0 (by decide) (by decide)
theorem zero_R : zeroVa.R 12 := by
  simp only [Va.R, RL]
  refine ⟨by decide, ⟨by decide, by decide, by decide, by decide, by decide, by decide, by decide, by decide, by decide, rightB_empty⟩, KeysP_nil, trivial, trivial⟩
abbrev fiveVa : Va := .mk 2 5 ByteArray.empty [] [] []
abbrev fiveHd : Hd := ⟨2, 5, ByteArray.empty, none, 0, 0, none, 0, 0⟩
theorem lies_five (w : World) (S : Nat → Prop) : Lies w S fiveVa fiveHd := lies_leaf w S 2 5 (by decide) (by decide)
theorem five_R : fiveVa.R 12 := by
  simp only [Va.R, RL]
  refine ⟨by decide, ⟨by decide, by decide, by decide, by decide, by decide, by decide, by decide, by decide, by decide, rightB_empty⟩, KeysP_nil, trivial, trivial⟩
theorem sh_zero : zeroVa.Sh := by simp [Va.Sh, ShL]
theorem sh_five : fiveVa.Sh := by simp [Va.Sh, ShL]
/-- What Few tells. -/
def FewP (a : Va) (w : World) (e : Ending) (w' : World) : Prop := ∃ r : Bool, e = .returned (.bool r) ∧ (r = true → a.Sh ∧ a.cnt ≤ 60) ∧ Below w.heap.size w w'
theorem few_ref (a : Va) (S : Nat → Prop) (h : Hd) (w : World) (H : Lies w S a h) : Calls Tryd.prog 8 #[h.val, .int .i64 60] w fun e w' => FewP a w e w' := by
  have h1 := few_any a S h (w.alloc (Obj.cells #[.int .i64 h.k, .int .i64 h.n, .string h.s, .slice h.A h.la h.lc, .slice h.F h.lf h.fc] 25)) 60 (H.below ((Below.refl _ _).alloc (Nat.le_refl _) _) (Nat.le_refl _)) (by decide) (by decide)
  have H1 := Lib.hid h1
  clear h1 H
  unfold Hd.val at *
  go_enter Tryd.func8, Tryd.ntmps8
  go_wp2_with fail
  refine H1.out.mono ?_
  rintro e w1 ⟨r, rfl, hr, hb1⟩
  have HR := Lib.hid hr
  have HB := Lib.hid (after_alloc hb1).1
  clear hr hb1 H1
  go_wp2_with fail
  go_ret
  refine ⟨_, rfl, fun h => ?_, HB.out⟩
  have h0 : 0 ≤ r := by simpa using h
  have := HR.out.2.2 h0
  exact ⟨this.1, by omega⟩
theorem rightref (a : Va) (S : Nat → Prop) (h : Hd) (w : World) (H : Lies w S a h) (hsh : a.Sh) : Calls Tryd.prog 10 #[h.val] w fun e w' => YesNo (a.R 12) w e w' := by
  have h1 := right_rec a S h (w.alloc (Obj.cells #[.int .i64 h.k, .int .i64 h.n, .string h.s, .slice h.A h.la h.lc, .slice h.F h.lf h.fc] 25)) 12 (H.below ((Below.refl _ _).alloc (Nat.le_refl _) _) (Nat.le_refl _)) hsh (by decide)
  have H1 := Lib.hid h1
  clear h1 H
  unfold Hd.val at *
  go_enter Tryd.func10, Tryd.ntmps10
  go_wp2_with fail
  refine H1.out.mono ?_
  rintro e w1 ⟨r, rfl, hr, hb1⟩
  have HR := Lib.hid hr
  have HB := Lib.hid (after_alloc hb1).1
  clear hr hb1 H1
  go_wp2_with fail
  go_ret
  exact ⟨r, rfl, HR.out, HB.out⟩
end Go.Proofs.YtbinmhcjadkmgaaDoor
