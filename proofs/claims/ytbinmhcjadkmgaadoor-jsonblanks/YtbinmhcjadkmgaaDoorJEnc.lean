/- cascade/json's Encode, and that the program is awake. -/
import Derived.Test.YtbinmhcjadkmgaaDoorJPutW
import Derived.Test.YtbinmhcjadkmgaaDoorTLawA
set_option linter.unusedVariables false
set_option linter.unusedSimpArgs false
namespace Go.Proofs.YtbinmhcjadkmgaaDoor
open Go.RowKit
theorem Lies.low {w : World} {a : Va} {h : Hd} (H : Lies w (fun _ => True) a h) : Lies w (fun b => b < w.heap.size) a h :=
  Lies.keep (fun p _ _ => rfl) (fun b _ hb => hb) a h H
set_option maxRecDepth 100000 in
theorem encode_no (a : Va) (h : Hd) (w : World) (H : Lies w (fun _ => True) a h) (hR : ¬ a.R 12) (hsh : a.Sh) (hc : a.cnt ≤ 60) : Calls Tryd.prog 9 #[h.val] w fun e w' => e = .returned (.tuple #[.string ⟨#[]⟩, .int .i64 1]) ∧ Below w.heap.size w w' := by
  have K := Lib.hid (right_prog a _ h (w.alloc (Obj.cells #[.int .i64 h.k, .int .i64 h.n, .string h.s, .slice h.A h.la h.lc, .slice h.F h.lf h.fc] 25)) (H.below ((Below.refl _ _).alloc (Nat.le_refl _) _) (Nat.le_refl _)) hsh (by omega))
  have HR := Lib.hid hR
  clear H hsh hc hR
  unfold Hd.val at *
  go_enter Tryd.func9, Tryd.ntmps9
  go_wp2_with fail
  refine K.out.mono ?_
  rintro e w1 ⟨r, rfl, hr, hb1⟩
  obtain rfl : r = false := by cases r; rfl; exact absurd (hr.1 rfl) HR.out
  have HB1 := Lib.hid (after_alloc hb1).1
  clear hr K hb1
  go_wp2_with fail
  go_ret2
  exact ⟨rfl, HB1.out⟩
set_option maxRecDepth 100000 in
theorem encode_yes (a : Va) (h : Hd) (w : World) (H : Lies w (fun _ => True) a h) (hR : a.R 12) (hsh : a.Sh) (hc : a.cnt ≤ 60) (hT : Tabs w) : Calls Tryd.prog 9 #[h.val] w fun e w' => e = .returned (.tuple #[.string ⟨a.js.toArray⟩, .int .i64 0]) ∧ Below w.heap.size w w' := by
  have K := Lib.hid (right_prog a _ h (w.alloc (Obj.cells #[.int .i64 h.k, .int .i64 h.n, .string h.s, .slice h.A h.la h.lc, .slice h.F h.lf h.fc] 25)) (H.below ((Below.refl _ _).alloc (Nat.le_refl _) _) (Nat.le_refl _)) hsh (by omega))
  have HL := Lib.hid H.low
  have HT := Lib.hid hT
  have HR := Lib.hid hR
  have HS := Lib.hid hsh
  have HJ := js_len hR hsh
  have HJ' : a.js.length ≤ 366000 := by omega
  clear H hsh hR hT HJ
  unfold Hd.val at *
  go_enter Tryd.func9, Tryd.ntmps9
  go_wp2_with fail
  refine K.out.mono ?_
  rintro e w1 ⟨r, rfl, hr, hb1⟩
  obtain rfl : r = true := hr.2 HR.out
  have HB1 := Lib.hid (after_alloc hb1).1
  have hbx : Bx w1 w.heap.size h := (Bx.start w h 25).go hb1 (by simp)
  have hbx := hbx.alloc (Obj.cells #[.pointer none, .slice none 0 0] 42)
  have q0 := hbx.2 0 _ rfl
  have q1 := hbx.2 1 _ rfl
  have q2 := hbx.2 2 _ rfl
  have q3 := hbx.2 3 _ rfl
  have q4 := hbx.2 4 _ rfl
  clear hr K hb1 hbx
  go_wp2_with fail
  have HB2 := Lib.hid (HB1.out.trans (((Below.refl w1.heap.size w1).alloc (Nat.le_refl _) (Obj.cells #[.pointer none, .slice none 0 0] 42)).mono HB1.out.size))
  have hsz : w.heap.size ≤ w1.heap.size := HB1.out.size
  refine (put_any a _ h (w1.alloc (Obj.cells #[.pointer none, .slice none 0 0] 42)) w1.heap.size w1.heap.size 12 [] (HL.out.below HB2.out (Nat.le_refl _)) (fun b hb => Nat.lt_of_lt_of_le hb hsz) HR.out HS.out (by simp; omega) (tabsB_of (HT.out.go HB1.out) |>.go ((Below.refl w1.heap.size w1).alloc (Nat.le_refl _) _)) (Lib.fresh_isBuilder _ _ w1) (by simp)).mono ?_
  rintro e w2 ⟨rfl, h2, f2⟩
  have HF := Lib.hid f2
  have H2 := Lib.hid h2
  clear h2 f2 q0 q1 q2 q3 q4
  go_wp2_with fail
  refine (Tryd.Builder_String_any w1.heap.size w1.heap.size a.js w2 (by simpa using H2.out) (Nat.le_trans (by simp) HF.out.1.size)).mono ?_
  rintro e w3 ⟨rfl, hb3⟩
  go_wp2_with fail
  go_ret2
  exact ⟨rfl, HB2.out.trans ((HF.out.1.trans hb3).mono hsz)⟩
abbrev mfiveVa : Va := .mk 2 (-5) ByteArray.empty [] [] []
abbrev mfiveHd : Hd := ⟨2, -5, ByteArray.empty, none, 0, 0, none, 0, 0⟩
theorem lies_mfive (w : World) (S : Nat → Prop) : Lies w S mfiveVa mfiveHd := lies_leaf w S 2 (-5) (by decide) (by decide)
theorem mfive_R : mfiveVa.R 12 := by
  simp only [Va.R, RL]
  refine ⟨by decide, ⟨by decide, by decide, by decide, by decide, by decide, by decide, by decide, by decide, by decide, rightB_empty⟩, KeysP_nil, trivial, trivial⟩
theorem sh_mfive : mfiveVa.Sh := by simp [Va.Sh, ShL]
theorem js_mfive : mfiveVa.js = [45, 53] := by
  rw [js_int rfl]
  unfold Lib.itoa
  rw [if_pos (by decide)]
  exact congrArg (45 :: ·) (Lib.decDigits_one (by decide))
set_option maxRecDepth 100000 in
theorem awake_any (w : World) (hT : Tabs w) : Calls Tryd.prog 7 #[] w fun e w' => e = .returned (.bool true) ∧ Below w.heap.size w w' := by
  have k := encode_yes mfiveVa mfiveHd w (lies_mfive _ _) mfive_R sh_mfive (by decide) hT
  rw [js_mfive] at k
  have K := Lib.hid k
  clear k hT
  go_enter Tryd.func7, Tryd.ntmps7
  go_wp2_with fail
  refine K.out.mono ?_
  rintro e w1 ⟨rfl, hb1⟩
  go_wp2_with fail
  go_ret
  exact ⟨rfl, hb1⟩
/-- The three tables, out of what is listed. -/
theorem tyPow : (Tryd.prog.globals[(0 : Nat)]?).map (·.type) = some 104 := by kernel_rfl
end Go.Proofs.YtbinmhcjadkmgaaDoor
