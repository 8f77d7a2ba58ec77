/- 'cascadelaw06.PathFinds' returns true at every input, and leaves it as it was: path.Find tells of all values and paths what they lead to, or that they lead nowhere, as the document's own answer does. No condition. -/
import Derived.Test.YtmdlcalnncncjaaRows
import Derived.Test.YtmdlcalnncncjaaPFindR
import Derived.Test.YtmdlcalnncncjaaPOpen
import Derived.ProofKit
import Derived.OpenShut
import Derived.ShutString
import Derived.ChangeOld
set_option linter.unusedVariables false
set_option linter.unusedSimpArgs false
namespace Go.Proofs.Ytmdlcalnncncjaa.pathFinds
open Go.ChangeShapes Go.WideShapes Go.ChangeAt Go.RowKit
open Go.ChangeMaps (open_string shut_string)
theorem bel2 {w w1 w2 : World} (h : Below w.heap.size w w1) (k : Below w1.heap.size w1 w2) : Below w.heap.size w w2 := h.trans (k.mono h.size)
def ends (W : World) (e : Ending) (w' : World) : Prop := e = .returned (.bool true) ∧ Below W.heap.size W w'
set_option maxHeartbeats 2000000 in
set_option maxRecDepth 100000 in
theorem walk (W : World) (a : Va) (h : Hd) (H : Lies W (fun _ => True) a h) (A : Option Addr) (m c : Nat) (p : List St) (hp : IsPath W A m c p) : Calls Try.prog 11 #[h.val, .slice A m c] W fun e w' => e = .returned (.bool true) ∧ Below W.heap.size W w' := by
  show Calls Try.prog 11 #[h.val, .slice A m c] W (ends W)
  obtain ⟨hm, hpc, hpm, hpA⟩ := hp
  have HP := Lib.hid hpA
  have HM := Lib.hid hm
  have HH := Lib.hid H
  have hmc : m ≤ c := by omega
  clear H hpA hpc hm
  have hw0 := awake6 (W.alloc (Obj.cells #[.int .i64 h.k, .int .i64 h.n, .string h.s, .slice h.A h.la h.lc, .slice h.F h.lf h.fc] 25))
  have HW0 := Lib.hid hw0
  clear hw0
  unfold Hd.val at *
  go_enter Try.func11, Try.ntmps11
  go_wp2_with fail
  refine HW0.out.mono ?_
  rintro e w1 ⟨rfl, hb1⟩
  have hbx1 := (BoxAt.start W h 25).go hb1 (Nat.le_refl _)
  have HX1 := Lib.hid hbx1
  have q0 := hbx1.2.2 0 _ rfl
  have q1 := hbx1.2.2 1 _ rfl
  have q2 := hbx1.2.2 2 _ rfl
  have q3 := hbx1.2.2 3 _ rfl
  have q4 := hbx1.2.2 4 _ rfl
  clear hb1 hbx1 HW0
  go_wp2_with fail
  refine (few_ref a _ h w1 (HH.out.below HX1.out.1 (Nat.le_refl _))).mono ?_
  rintro e w2 ⟨r, rfl, hr, hb2⟩
  have hbx2 := HX1.out.go hb2 (Nat.le_refl _)
  have HX2 := Lib.hid hbx2
  clear q0 q1 q2 q3 q4 hb2 HX1
  have HR := Lib.hid hr
  clear hr
  cases r
  · clear hbx2
    go_wp2_with fail
    refine (awake6 w2).mono ?_
    rintro e w3 ⟨rfl, hb3⟩
    go_wp2_with fail
    go_ret
    exact ⟨rfl, bel2 HX2.out.1 hb3⟩
  obtain ⟨hsh, hcn⟩ := HR.out rfl
  have HSH := Lib.hid hsh
  clear hsh HR hbx2
  go_wp2_with fail
  refine (fewS_any p A m c w2 HM.out (HP.out.below HX2.out.1 (Nat.le_refl _)) hpm).mono ?_
  rintro e w3 ⟨f1, rfl, hf1, hb3⟩
  have HF1 := Lib.hid hf1
  have hbx3 := HX2.out.go hb3 (Nat.le_refl _)
  have HX3 := Lib.hid hbx3
  clear hf1 hb3 HX2
  cases f1
  · clear hbx3
    go_wp2_with fail
    refine (awake6 w3).mono ?_
    rintro e w4 ⟨rfl, hb4⟩
    go_wp2_with fail
    go_ret
    exact ⟨rfl, bel2 HX3.out.1 hb4⟩
  have FP := Lib.hid (HF1.out rfl)
  have hp4 : m ≤ 40 := by have := FP.out.1; have := HM.out; omega
  have HKS := Lib.hid (show ∀ s ∈ p, s.k.size ≤ 4294967296 from fun s hs => by have := FP.out.2 s hs; omega)
  clear HF1
  have q0 := hbx3.2.2 0 _ rfl
  have q1 := hbx3.2.2 1 _ rfl
  have q2 := hbx3.2.2 2 _ rfl
  have q3 := hbx3.2.2 3 _ rfl
  have q4 := hbx3.2.2 4 _ rfl
  clear hbx3
  go_wp2_with fail
  refine (find_prog a _ h w3 A m c p (HH.out.below HX3.out.1 (Nat.le_refl _)) HSH.out (by omega) (HP.out.below HX3.out.1 (Nat.le_refl _)) HM.out hmc (by omega)).mono ?_
  rintro e w4 ⟨b, h', ok, rfl, hb4, hl4, ho4⟩
  have HX4 := Lib.hid (HX3.out.go hb4 (Nat.le_refl _))
  have HL4 := Lib.hid hl4
  have HO4 := Lib.hid ho4
  clear hb4 hl4 ho4 HX3 q0 q1 q2 q3 q4
  go_upto_region 4 with fail
  have hb5 := one_alloc w4 (Obj.cells #[.int .i64 h'.k, .int .i64 h'.n, .string h'.s, .slice h'.A h'.la h'.lc, .slice h'.F h'.lf h'.fc] 25)
  have hcx := Bx.start w4 h' 25
  generalize w4.alloc (Obj.cells #[.int .i64 h'.k, .int .i64 h'.n, .string h'.s, .slice h'.A h'.la h'.lc, .slice h'.F h'.lf h'.fc] 25) = w5 at hb5 hcx ⊢
  have hbx5 := HX4.out.go hb5 (Nat.le_refl _)
  have HX5 := Lib.hid hbx5
  have HC5 := Lib.hid hcx
  have HL5 := Lib.hid (HL4.out.below hb5 (Nat.le_refl _))
  clear hb5 hcx HX4 HL4
  have q0 := hbx5.2.2 0 _ rfl
  have q1 := hbx5.2.2 1 _ rfl
  have q2 := hbx5.2.2 2 _ rfl
  have q3 := hbx5.2.2 3 _ rfl
  have q4 := hbx5.2.2 4 _ rfl
  clear hbx5
  go_wp2_with fail
  refine (rightref a _ h w5 (HH.out.below HX5.out.1 (Nat.le_refl _)) HSH.out).mono ?_
  rintro e w6 ⟨r, rfl, hr, hb6⟩
  have HR := Lib.hid hr
  have hbx6 := HX5.out.go hb6 (Nat.le_refl _)
  have HX6 := Lib.hid hbx6
  have HC6 := Lib.hid (HC5.out.go hb6 HC5.out.1)
  have HL6 := Lib.hid (HL5.out.below hb6 (Nat.le_refl _))
  clear hr hb6 HX5 HC5 HL5 q0 q1 q2 q3 q4
  cases r
  · obtain ⟨rfl, rfl⟩ : ok = false ∧ b = zeroVa := by
      rcases HO4.out with ⟨_, h1, _⟩ | ⟨h1, h2, _⟩
      · exact absurd (HR.out.2 h1.1) (by decide)
      · exact ⟨h1, h2⟩
    clear hbx6
    have s0 := HC6.out.2 0 _ rfl
    have s1 := HC6.out.2 1 _ rfl
    have s2 := HC6.out.2 2 _ rfl
    have s3 := HC6.out.2 3 _ rfl
    have s4 := HC6.out.2 4 _ rfl
    go_wp2_with fail
    refine (zero_law6 zeroVa _ h' w6 HL6.out).mono ?_
    rintro e w7 ⟨r, rfl, hr, hb7⟩
    obtain rfl : r = true := hr.2 rfl
    clear hr
    go_wp2_with fail
    go_ret
    exact ⟨rfl, bel2 HX6.out.1 hb7⟩
  have HRA := Lib.hid (HR.out.1 rfl)
  clear HR hbx6
  go_wp2_with fail
  refine (path_right_ref p A m c w6 HM.out hpm (HP.out.below HX6.out.1 (Nat.le_refl _)) HKS.out).mono ?_
  rintro e w7 ⟨r, rfl, hr, hb7⟩
  have HR := Lib.hid hr
  have hbx7 := HX6.out.go hb7 (Nat.le_refl _)
  have HX7 := Lib.hid hbx7
  have HC7 := Lib.hid (HC6.out.go hb7 HC6.out.1)
  have HL7 := Lib.hid (HL6.out.below hb7 (Nat.le_refl _))
  clear hr hb7 HX6 HC6 HL6
  cases r
  · obtain ⟨rfl, rfl⟩ : ok = false ∧ b = zeroVa := by
      rcases HO4.out with ⟨_, h1, _⟩ | ⟨h1, h2, _⟩
      · exact absurd (HR.out.2 h1.2.1) (by decide)
      · exact ⟨h1, h2⟩
    clear hbx7
    have s0 := HC7.out.2 0 _ rfl
    have s1 := HC7.out.2 1 _ rfl
    have s2 := HC7.out.2 2 _ rfl
    have s3 := HC7.out.2 3 _ rfl
    have s4 := HC7.out.2 4 _ rfl
    go_wp2_with fail
    refine (zero_law6 zeroVa _ h' w7 HL7.out).mono ?_
    rintro e w8 ⟨r, rfl, hr, hb8⟩
    obtain rfl : r = true := hr.2 rfl
    clear hr
    go_wp2_with fail
    go_ret
    exact ⟨rfl, bel2 HX7.out.1 hb8⟩
  have HRP := Lib.hid (HR.out.1 rfl)
  have HALL : Hid (AllR a p []) := Lib.hid ⟨HRA.out, HRP.out, by simp⟩
  clear HR
  have q0 := hbx7.2.2 0 _ rfl
  have q1 := hbx7.2.2 1 _ rfl
  have q2 := hbx7.2.2 2 _ rfl
  have q3 := hbx7.2.2 3 _ rfl
  have q4 := hbx7.2.2 4 _ rfl
  clear hbx7
  go_wp2_with fail
  refine (find_ref a _ h w7 A m c p (HH.out.below HX7.out.1 (Nat.le_refl _)) (by omega) (HP.out.below HX7.out.1 (Nat.le_refl _)) HM.out (by omega) HRP.out.2).mono ?_
  rintro e w8 ⟨b2, h2, ok2, rfl, hb8, hl8, ho8⟩
  obtain ⟨rfl, rfl⟩ : ok2 = ok ∧ b2 = b := by
    rcases HO4.out with ⟨h1, _, h3⟩ | ⟨h1, h3, h4⟩
    · rcases ho8 with ⟨k1, k2⟩ | ⟨k1, k2, _⟩
      · rw [h3] at k2; cases k2; exact ⟨by rw [h1, k1], rfl⟩
      · rw [h3] at k2; cases k2
    · rcases ho8 with ⟨k1, k2⟩ | ⟨k1, _, k2, _⟩
      · rw [h4 HALL.out] at k2; cases k2
      · exact ⟨by rw [h1, k1], by rw [h3, k2]⟩
  have HX8 := Lib.hid (HX7.out.go hb8 (Nat.le_refl _))
  have HC8 := Lib.hid (HC7.out.go hb8 HC7.out.1)
  have HL8 := Lib.hid (HL7.out.below hb8 (Nat.le_refl _))
  have HL8b := Lib.hid hl8
  clear hb8 hl8 ho8 HX7 HC7 HL7 q0 q1 q2 q3 q4 HO4
  go_upto_region 7 with fail
  have hb9 := one_alloc w8 (Obj.cells #[.int .i64 h2.k, .int .i64 h2.n, .string h2.s, .slice h2.A h2.la h2.lc, .slice h2.F h2.lf h2.fc] 25)
  have hcy := Bx.start w8 h2 25
  generalize w8.alloc (Obj.cells #[.int .i64 h2.k, .int .i64 h2.n, .string h2.s, .slice h2.A h2.la h2.lc, .slice h2.F h2.lf h2.fc] 25) = w9 at hb9 hcy ⊢
  have HX9 := Lib.hid (HX8.out.go hb9 (Nat.le_refl _))
  have hcx9 := HC8.out.go hb9 HC8.out.1
  have HL9 := Lib.hid (HL8.out.below hb9 (Nat.le_refl _))
  have HL9b := Lib.hid (HL8b.out.below hb9 (Nat.le_refl _))
  clear hb9 HX8 HC8 HL8 HL8b
  have s0 := hcx9.2 0 _ rfl
  have s1 := hcx9.2 1 _ rfl
  have s2 := hcx9.2 2 _ rfl
  have s3 := hcx9.2 3 _ rfl
  have s4 := hcx9.2 4 _ rfl
  have y0 := hcy.2 0 _ rfl
  have y1 := hcy.2 1 _ rfl
  have y2 := hcy.2 2 _ rfl
  have y3 := hcy.2 3 _ rfl
  have y4 := hcy.2 4 _ rfl
  clear hcx9 hcy
  cases ok2
  all_goals
    go_wp2_with fail
    refine (same_ref b2 b2 _ _ h' h2 w9 HL9.out HL9b.out).mono ?_
    rintro e w10 ⟨r, rfl, hr, hb10⟩
    obtain rfl : r = true := hr.2 rfl
    clear hr
    go_wp2_with fail
    go_ret
    exact ⟨rfl, bel2 HX9.out.1 hb10⟩
theorem own : ownKnob Try.prog.godebug = none := by kernel_rfl
theorem laidOut : laidOutB Try.prog = true := by kernel_rfl
set_option maxRecDepth 100000 in
theorem lifted (os : Os) (started : os.Started) (H : Type) (enc : TypeId × Value → H) :
    ReturnsInHanded {} Try.checked os 11 .any (Rows.pathFindsSpec.pre6 enc Try.prog Try.f11 Rows.pathFindsRow.domain false) (Rows.pathFindsSpec.post enc Try.prog Try.f11 false true false false) := by
  refine returnsInHanded_of_change (C := Try.checked) own started (by kernel_rfl) Try.func11
    (ChangeSpec.witness6 (enc := enc) (C := Try.checked) false ⟨#[], #[.agg #[.int .i64 0, .int .i64 0, .string ByteArray.empty, .slice none 0 0, .slice none 0 0], .slice none 0 0], []⟩ 8 (by kernel_rfl) (by kernel_rfl) (by kernel_rfl) (by kernel_rfl)) ?_
  intro W base args ds gs before hval0 hW hcnd _
  have hval : ∀ (j : Nat) t v, Try.f11.params[j]? = some t → args[j]? = some v → Value.okWide Try.prog W .any base t v := hval0
  have hW' := hW
  obtain ⟨p, q, hA0, hV, rfl, hfz, hnd⟩ := hW
  have hA : DataW.TrodAll enc Try.prog W 0 (fun _ => true) true Try.f11.params.toList args.toList ds p := hA0
  rw [Try.params11] at hA hval
  obtain ⟨v0, vs0, d0, ds0, p0, q0, hargs, rfl, rfl, h0, r0⟩ := trodAll_cons hA
  obtain ⟨v1, vs1, d1, ds1, p1, q1, rfl, rfl, rfl, h1, r1⟩ := trodAll_cons r0
  obtain ⟨rfl, rfl, rfl⟩ := trodAll_nil r1
  obtain rfl : args = #[v0, v1] := by cases args; simp_all
  obtain ⟨rfl, rfl⟩ := trodVars_none hV
  have k0 := h0
  have lt0 : ∀ x ∈ p0, x.block < W.heap.size := by obtain ⟨m, hm⟩ := k0; exact DataW.trod_lt m _ _ _ hm
  obtain ⟨a0, g0, rfl, w0⟩ := open_value (hval 0 25 v0 rfl rfl) h0
  have k1 := h1
  have lt1 : ∀ x ∈ p1, x.block < W.heap.size := by obtain ⟨m, hm⟩ := k1; exact DataW.trod_lt m _ _ _ hm
  obtain ⟨a1, n1, c1, z1, rfl, w1⟩ := open_path (hval 1 50 v1 rfl rfl) h1
  clear hA0 hval0
  refine (walk W a0 g0 w0 a1 n1 c1 z1 w1).mono fun e W' ⟨he, bel⟩ => ?_
  subst he
  exact ⟨_, rfl, _, _, _, [], _, [], hW', trodAll_mk1 (shut_bool Try.underlying4 _), (trodAll_cons_mk (Below.trod laidOut (by kernel_rfl) (of_decide_eq_true (by kernel_rfl)) k0 bel lt0) (trodAll_cons_mk (Below.trod laidOut (by kernel_rfl) (of_decide_eq_true (by kernel_rfl)) k1 bel lt1) trodAll_mk0)), rfl, bel.frame _, fun h => by cases h⟩
theorem over : Rows.pathFindsRow.holds Try.pinned (OpenSpec.ofChange Rows.pathFindsSpec) :=
  OpenClaim.holds_of_wide 11 Try.f11 rfl rfl rfl rfl rfl rfl rfl ⟨rfl, rfl, rfl, rfl, rfl⟩ rfl rfl rfl rfl rfl (by kernel_rfl) Try.func11 (by kernel_rfl)
    (of_decide_eq_true (by kernel_rfl)) (by unfold Func.isWrapper; first | (rw [if_pos (by decide +kernel)]; kernel_rfl) | (rw [if_neg (by decide +kernel)]; exact ⟨rfl, rfl⟩))
    (fun os started H enc _ => lifted os started H enc)
theorem proved : Rows.PathFindsSaid := over
end Go.Proofs.Ytmdlcalnncncjaa.pathFinds
namespace Go.Proofs.Ytmdlcalnncncjaa
theorem pathFinds_holds : Rows.PathFindsSaid := pathFinds.proved
#print axioms pathFinds_holds
end Go.Proofs.Ytmdlcalnncncjaa
