/- 'cascadelaw03.TreeRight' returns true at every input, and leaves it as it was: tree.Right, Count and Clone tell of all values what the document's own answers tell. No condition. -/
import Derived.Test.YtfcbbafdknobeaaRows
import Derived.Test.YtfcbbafdknobeaaTOpen
import Derived.ProofKit
import Derived.OpenShut
import Derived.ShutString
import Derived.ChangeOld
set_option linter.unusedVariables false
set_option linter.unusedSimpArgs false
namespace Go.Proofs.Ytfcbbafdknobeaa.treeRight
open Go.ChangeShapes Go.WideShapes Go.ChangeAt Go.RowKit
open Go.ChangeMaps (open_string shut_string)
theorem Below_next {w w1 w2 : World} (h : Below w.heap.size w w1) (k : Below w1.heap.size w1 w2) : Below w.heap.size w w2 := h.trans (k.mono h.size)
def ends (W : World) (e : Ending) (w' : World) : Prop := e = .returned (.bool true) ∧ Below W.heap.size W w'
set_option maxHeartbeats 1000000 in
theorem walk (W : World) (a : Va) (h : Hd) (H : Lies W (fun _ => True) a h) : Calls Try.prog 3 #[h.val] W fun e w' => e = .returned (.bool true) ∧ Below W.heap.size W w' := by
  show Calls Try.prog 3 #[h.val] W (ends W)
  have HH := Lib.hid H
  clear H
  have hw0 := awake_any (W.alloc (Obj.cells #[.int .i64 h.k, .int .i64 h.n, .string h.s, .slice h.A h.la h.lc, .slice h.F h.lf h.fc] 25))
  have HW0 := Lib.hid hw0
  clear hw0
  unfold Hd.val at *
  go_enter Try.func3, Try.ntmps3
  go_wp2_with fail
  refine HW0.out.mono ?_
  rintro e w1 ⟨rfl, hb1⟩
  have hbx1 := (BoxAt.start W h 25).go hb1 (Nat.le_refl _)
  have HX1 := Lib.hid hbx1
  have q0 := hbx1.2.2 0 _ rfl
  have q1 := hbx1.2.2 1 _ rfl
  have q2 := hbx1.2.2 2 _ rfl
  have q3 := hbx1.2.2 3 _ rfl
  have q4 := hbx1.2.2 4 _ rfl
  clear hb1 hbx1 HW0
  go_wp2_with fail
  refine (few_ref a _ h w1 (HH.out.below HX1.out.1 (Nat.le_refl _))).mono ?_
  rintro e w2 ⟨r, rfl, hr, hb2⟩
  have hbx2 := HX1.out.go hb2 (Nat.le_refl _)
  have HX2 := Lib.hid hbx2
  clear q0 q1 q2 q3 q4 hb2 HX1
  have HR := Lib.hid hr
  clear hr
  cases r
  · clear hbx2
    go_wp2_with fail
    refine (awake_any w2).mono ?_
    rintro e w3 ⟨rfl, hb3⟩
    go_wp2_with fail
    go_ret
    exact ⟨rfl, Below_next HX2.out.1 hb3⟩
  obtain ⟨hsh, hcn⟩ := HR.out rfl
  have HSH := Lib.hid hsh
  clear hsh HR
  have q0 := hbx2.2.2 0 _ rfl
  have q1 := hbx2.2.2 1 _ rfl
  have q2 := hbx2.2.2 2 _ rfl
  have q3 := hbx2.2.2 3 _ rfl
  have q4 := hbx2.2.2 4 _ rfl
  clear hbx2
  go_wp2_with fail
  refine (rightref a _ h w2 (HH.out.below HX2.out.1 (Nat.le_refl _)) HSH.out).mono ?_
  rintro e w3 ⟨r, rfl, hr, hb3⟩
  have hbx3 := HX2.out.go hb3 (Nat.le_refl _)
  have HX3 := Lib.hid hbx3
  have HR := Lib.hid hr
  clear hr hb3 q0 q1 q2 q3 q4 HX2
  have q0 := hbx3.2.2 0 _ rfl
  have q1 := hbx3.2.2 1 _ rfl
  have q2 := hbx3.2.2 2 _ rfl
  have q3 := hbx3.2.2 3 _ rfl
  have q4 := hbx3.2.2 4 _ rfl
  clear hbx3
  cases r
  · have hno : ¬ a.R 12 := fun h => by have := HR.out.2 h; cases this
    have HNO := Lib.hid hno
    clear hno HR
    go_wp2_with fail
    refine (clone_prog a _ h w3 (HH.out.below HX3.out.1 (Nat.le_refl _)) HSH.out (by omega)).mono ?_
    rintro e w4 ⟨b, h', T, rfl, hown, -, hb4, -, hbz⟩
    obtain rfl : b = zeroVa := hbz HNO.out
    have hbx4 := HX3.out.go hb4 (Nat.le_refl _)
    have HX4 := Lib.hid hbx4
    have HL := Lib.hid (Own.lies _ _ _ hown)
    clear hb4 hbz hown q0 q1 q2 q3 q4 HX3
    have q0 := hbx4.2.2 0 _ rfl
    have q1 := hbx4.2.2 1 _ rfl
    have q2 := hbx4.2.2 2 _ rfl
    have q3 := hbx4.2.2 3 _ rfl
    have q4 := hbx4.2.2 4 _ rfl
    have hNw := hbx4.2.1
    clear hbx4
    go_wp2_with fail
    have hb5 : Below w4.heap.size w4 (w4.alloc (Obj.cells #[.int .i64 h'.k, .int .i64 h'.n, .string h'.s, .slice h'.A h'.la h'.lc, .slice h'.F h'.lf h'.fc] 25)) := (Below.refl _ _).alloc (Nat.le_refl _) _
    have hcx := Bx.start w4 h' 25
    generalize w4.alloc (Obj.cells #[.int .i64 h'.k, .int .i64 h'.n, .string h'.s, .slice h'.A h'.la h'.lc, .slice h'.F h'.lf h'.fc] 25) = w5 at hb5 hcx ⊢
    have HC5 := Lib.hid hcx
    have HX5 := Lib.hid (HX4.out.go hb5 (Nat.le_refl _))
    have HL5 := Lib.hid (HL.out.below hb5 (Nat.le_refl _))
    clear hb5 hcx q0 q1 q2 q3 q4 HX4 HL
    refine (right_prog a _ h w5 (HH.out.below HX5.out.1 (Nat.le_refl _)) HSH.out (by omega)).mono ?_
    rintro e w6 ⟨r, rfl, hr, hb6⟩
    obtain rfl : r = false := by cases r; rfl; exact absurd (hr.1 rfl) HNO.out
    have hbx6 := HX5.out.go hb6 (Nat.le_refl _)
    have HX6 := Lib.hid hbx6
    have HC6 := Lib.hid (HC5.out.go hb6 HC5.out.1)
    have HL6 := Lib.hid (HL5.out.below hb6 (Nat.le_refl _))
    clear hr hb6 HX5 HC5 HL5
    have q0 := hbx6.2.2 0 _ rfl
    have q1 := hbx6.2.2 1 _ rfl
    have q2 := hbx6.2.2 2 _ rfl
    have q3 := hbx6.2.2 3 _ rfl
    have q4 := hbx6.2.2 4 _ rfl
    clear hbx6
    go_wp2_with fail
    refine (count_prog a _ h w6 (HH.out.below HX6.out.1 (Nat.le_refl _)) HSH.out (by omega)).mono ?_
    rintro e w7 ⟨⟨n, rfl, -, hn⟩, hb7⟩
    obtain rfl : n = 0 := hn HNO.out
    have HX7 := Lib.hid (HX6.out.go hb7 (Nat.le_refl _))
    have hcx7 := HC6.out.go hb7 HC6.out.1
    have HL7 := Lib.hid (HL6.out.below hb7 (Nat.le_refl _))
    clear hn hb7 HX6 HC6 HL6 q0 q1 q2 q3 q4
    have p0 := hcx7.2 0 _ rfl
    have p1 := hcx7.2 1 _ rfl
    have p2 := hcx7.2 2 _ rfl
    have p3 := hcx7.2 3 _ rfl
    have p4 := hcx7.2 4 _ rfl
    clear hcx7
    go_wp2_with fail
    refine (zero_law zeroVa _ h' w7 HL7.out).mono ?_
    rintro e w8 ⟨r, rfl, hr, hb8⟩
    obtain rfl : r = true := hr.2 rfl
    clear hr
    go_wp2_with fail
    go_ret
    exact ⟨rfl, Below_next HX7.out.1 hb8⟩
  · have hyes : a.R 12 := HR.out.1 rfl
    have HY := Lib.hid hyes
    clear hyes HR
    go_wp2_with fail
    refine (count_ref a _ h w3 (HH.out.below HX3.out.1 (Nat.le_refl _)) (by omega)).mono ?_
    rintro e w3' ⟨rfl, hb3⟩
    have hbx3 := HX3.out.go hb3 (Nat.le_refl _)
    have HX3' := Lib.hid hbx3
    clear hb3 q0 q1 q2 q3 q4 HX3
    have q0 := hbx3.2.2 0 _ rfl
    have q1 := hbx3.2.2 1 _ rfl
    have q2 := hbx3.2.2 2 _ rfl
    have q3 := hbx3.2.2 3 _ rfl
    have q4 := hbx3.2.2 4 _ rfl
    clear hbx3
    obtain ⟨ac, hac⟩ : ∃ ac : Int, ac = (a.cnt : Int) := ⟨_, rfl⟩
    rw [← hac]
    have HAC := Lib.hid hac
    clear hac
    go_wp2_with fail
    refine (clone_prog a _ h w3' (HH.out.below HX3'.out.1 (Nat.le_refl _)) HSH.out (by omega)).mono ?_
    rintro e w4 ⟨b, h', T, rfl, hown, -, hb4, hba, -⟩
    obtain rfl : b = a := hba HY.out
    have hbx4 := HX3'.out.go hb4 (Nat.le_refl _)
    have HX4 := Lib.hid hbx4
    have HL := Lib.hid (Own.lies _ _ _ hown)
    clear hb4 hba hown q0 q1 q2 q3 q4 HX3'
    have q0 := hbx4.2.2 0 _ rfl
    have q1 := hbx4.2.2 1 _ rfl
    have q2 := hbx4.2.2 2 _ rfl
    have q3 := hbx4.2.2 3 _ rfl
    have q4 := hbx4.2.2 4 _ rfl
    have hNw := hbx4.2.1
    clear hbx4
    go_wp2_with fail
    have hb5 : Below w4.heap.size w4 (w4.alloc (Obj.cells #[.int .i64 h'.k, .int .i64 h'.n, .string h'.s, .slice h'.A h'.la h'.lc, .slice h'.F h'.lf h'.fc] 25)) := (Below.refl _ _).alloc (Nat.le_refl _) _
    have hcx := Bx.start w4 h' 25
    generalize w4.alloc (Obj.cells #[.int .i64 h'.k, .int .i64 h'.n, .string h'.s, .slice h'.A h'.la h'.lc, .slice h'.F h'.lf h'.fc] 25) = w5 at hb5 hcx ⊢
    have HC5 := Lib.hid hcx
    have HX5 := Lib.hid (HX4.out.go hb5 (Nat.le_refl _))
    have HL5 := Lib.hid (HL.out.below hb5 (Nat.le_refl _))
    clear hb5 hcx q0 q1 q2 q3 q4 HX4 HL
    refine (right_prog b _ h w5 (HH.out.below HX5.out.1 (Nat.le_refl _)) HSH.out (by omega)).mono ?_
    rintro e w6 ⟨r, rfl, hr, hb6⟩
    obtain rfl : r = true := hr.2 HY.out
    have hbx6 := HX5.out.go hb6 (Nat.le_refl _)
    have HX6 := Lib.hid hbx6
    have HC6 := Lib.hid (HC5.out.go hb6 HC5.out.1)
    have HL6 := Lib.hid (HL5.out.below hb6 (Nat.le_refl _))
    clear hr hb6 HX5 HC5 HL5
    have q0 := hbx6.2.2 0 _ rfl
    have q1 := hbx6.2.2 1 _ rfl
    have q2 := hbx6.2.2 2 _ rfl
    have q3 := hbx6.2.2 3 _ rfl
    have q4 := hbx6.2.2 4 _ rfl
    clear hbx6
    go_wp2_with fail
    refine (count_prog b _ h w6 (HH.out.below HX6.out.1 (Nat.le_refl _)) HSH.out (by omega)).mono ?_
    rintro e w7 ⟨⟨n, rfl, hn, -⟩, hb7⟩
    obtain rfl : n = ac := (hn HY.out).trans HAC.out.symm
    have hbx7 := HX6.out.go hb7 (Nat.le_refl _)
    have HX7 := Lib.hid hbx7
    have hcx7 := HC6.out.go hb7 HC6.out.1
    have HL7 := Lib.hid (HL6.out.below hb7 (Nat.le_refl _))
    clear hn hb7 HX6 HC6 HL6 q0 q1 q2 q3 q4
    have p0 := hcx7.2 0 _ rfl
    have p1 := hcx7.2 1 _ rfl
    have p2 := hcx7.2 2 _ rfl
    have p3 := hcx7.2 3 _ rfl
    have p4 := hcx7.2 4 _ rfl
    have q0 := hbx7.2.2 0 _ rfl
    have q1 := hbx7.2.2 1 _ rfl
    have q2 := hbx7.2.2 2 _ rfl
    have q3 := hbx7.2.2 3 _ rfl
    have q4 := hbx7.2.2 4 _ rfl
    clear hcx7 hbx7
    go_wp2_with fail
    refine (same_ref b b _ _ h' h w7 HL7.out (HH.out.below HX7.out.1 (Nat.le_refl _))).mono ?_
    rintro e w8 ⟨r, rfl, hr, hb8⟩
    obtain rfl : r = true := hr.2 rfl
    clear hr
    go_wp2_with fail
    go_ret
    exact ⟨rfl, Below_next HX7.out.1 hb8⟩
theorem own : ownKnob Try.prog.godebug = none := by kernel_rfl
theorem laidOut : laidOutB Try.prog = true := by kernel_rfl
set_option maxRecDepth 100000 in
theorem lifted (os : Os) (started : os.Started) (H : Type) (enc : TypeId × Value → H) :
    ReturnsInHanded {} Try.checked os 3 .any (Rows.treeRightSpec.pre6 enc Try.prog Try.f3 Rows.treeRightRow.domain false) (Rows.treeRightSpec.post enc Try.prog Try.f3 false true false false) := by
  refine returnsInHanded_of_change (C := Try.checked) own started (by kernel_rfl) Try.func3
    (ChangeSpec.witness6 (enc := enc) (C := Try.checked) false ⟨#[], #[.agg #[.int .i64 0, .int .i64 0, .string ByteArray.empty, .slice none 0 0, .slice none 0 0]], []⟩ 8 (by kernel_rfl) (by kernel_rfl) (by kernel_rfl) (by kernel_rfl)) ?_
  intro W base args ds gs before hval0 hW hcnd _
  have hval : ∀ (j : Nat) t v, Try.f3.params[j]? = some t → args[j]? = some v → Value.okWide Try.prog W .any base t v := hval0
  have hW' := hW
  obtain ⟨p, q, hA0, hV, rfl, hfz, hnd⟩ := hW
  have hA : DataW.TrodAll enc Try.prog W 0 (fun _ => true) true Try.f3.params.toList args.toList ds p := hA0
  rw [Try.params3] at hA hval
  obtain ⟨v0, vs0, d0, ds0, p0, q0, hargs, rfl, rfl, h0, r0⟩ := trodAll_cons hA
  obtain ⟨rfl, rfl, rfl⟩ := trodAll_nil r0
  obtain rfl : args = #[v0] := by cases args; simp_all
  obtain ⟨rfl, rfl⟩ := trodVars_none hV
  have k0 := h0
  have lt0 : ∀ x ∈ p0, x.block < W.heap.size := by obtain ⟨m, hm⟩ := k0; exact DataW.trod_lt m _ _ _ hm
  obtain ⟨a0, g0, rfl, w0⟩ := open_value (hval 0 25 v0 rfl rfl) h0
  clear hA0 hval0
  refine (walk W a0 g0 w0).mono fun e W' ⟨he, bel⟩ => ?_
  subst he
  exact ⟨_, rfl, _, _, _, [], _, [], hW', trodAll_mk1 (shut_bool Try.underlying4 _), (trodAll_cons_mk (Below.trod laidOut (by kernel_rfl) (of_decide_eq_true (by kernel_rfl)) k0 bel lt0) trodAll_mk0), rfl, bel.frame _, fun h => by cases h⟩
theorem over : Rows.treeRightRow.holds Try.pinned (OpenSpec.ofChange Rows.treeRightSpec) :=
  OpenClaim.holds_of_wide 3 Try.f3 rfl rfl rfl rfl rfl rfl rfl ⟨rfl, rfl, rfl, rfl, rfl⟩ rfl rfl rfl rfl rfl (by kernel_rfl) Try.func3 (by kernel_rfl)
    (of_decide_eq_true (by kernel_rfl)) (by unfold Func.isWrapper; first | (rw [if_pos (by decide +kernel)]; kernel_rfl) | (rw [if_neg (by decide +kernel)]; exact ⟨rfl, rfl⟩))
    (fun os started H enc _ => lifted os started H enc)
theorem proved : Rows.TreeRightSaid := over
end Go.Proofs.Ytfcbbafdknobeaa.treeRight
namespace Go.Proofs.Ytfcbbafdknobeaa
theorem treeRight_holds : Rows.TreeRightSaid := treeRight.proved
#print axioms treeRight_holds
end Go.Proofs.Ytfcbbafdknobeaa
