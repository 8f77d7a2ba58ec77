/- 'cascadelaw06.PathRight' returns true at every input, and leaves it as it was: path.Right tells of all paths what the document's own answer tells, path.Value tells the value of those that are right, and they come again from it by path.Of. No condition. -/
import Derived.Test.YtmdlcalnncncjaaRows
import Derived.Test.YtmdlcalnncncjaaPOf
import Derived.Test.YtmdlcalnncncjaaPOpen
import Derived.ProofKit
import Derived.OpenShut
import Derived.ShutString
import Derived.ChangeOld
import Derived.Deep.RegionHeld3
set_option linter.unusedVariables false
set_option linter.unusedSimpArgs false
namespace Go.Proofs.Ytmdlcalnncncjaa.pathRight
open Go.ChangeShapes Go.WideShapes Go.ChangeAt Go.RowKit
open Go.ChangeMaps (open_string shut_string)
theorem bel2 {w w1 w2 : World} (h : Below w.heap.size w w1) (k : Below w1.heap.size w1 w2) : Below w.heap.size w w2 := h.trans (k.mono h.size)
def ends (W : World) (e : Ending) (w' : World) : Prop := e = .returned (.bool true) ∧ Below W.heap.size W w'
abbrev S5 (X : Nat) (u : Hd) (w : World) : Prop := w.cell? ⟨X, 0, none⟩ = some (.int .i64 u.k) ∧ w.cell? ⟨X, 1, none⟩ = some (.int .i64 u.n) ∧ w.cell? ⟨X, 2, none⟩ = some (.string u.s) ∧ w.cell? ⟨X, 3, none⟩ = some (.slice u.A u.la u.lc) ∧ w.cell? ⟨X, 4, none⟩ = some (.slice u.F u.lf u.fc)
theorem S5.of {X : Nat} {u : Hd} {w : World} (h : Bx w X u) : S5 X u w := ⟨h.2 0 _ rfl, h.2 1 _ rfl, h.2 2 _ rfl, h.2 3 _ rfl, h.2 4 _ rfl⟩
set_option maxHeartbeats 4000000 in
set_option maxRecDepth 100000 in
theorem walk (W : World) (A : Option Addr) (n c : Nat) (p : List St) (hp : IsPath W A n c p) :
    Calls Try.prog 9 #[.slice A n c] W fun e w' => e = .returned (.bool true) ∧ Below W.heap.size W w' := by
  show Calls Try.prog 9 #[.slice A n c] W (ends W)
  obtain ⟨rfl, hpc, hpm, hpA⟩ := hp
  have HP := Lib.hid hpA
  have K0 := Lib.hid (awake6 W)
  clear hpA
  go_enter Try.func9, Try.ntmps9
  go_wp2_with fail
  refine K0.out.mono ?_
  rintro e w1 ⟨rfl, hb1⟩
  have HB1 := Lib.hid hb1
  clear hb1 K0
  go_wp2_with fail
  refine (fewS_any p A p.length c w1 rfl (HP.out.below HB1.out (Nat.le_refl _)) hpm).mono ?_
  rintro e w2 ⟨f1, rfl, hf1, hb2⟩
  have HF1 := Lib.hid hf1
  have HB2 := Lib.hid (bel2 HB1.out hb2)
  clear hf1 hb2 HB1
  cases f1
  · go_wp2_with fail
    refine (awake6 w2).mono ?_
    rintro e w3 ⟨rfl, hb3⟩
    go_wp2_with fail
    go_ret
    exact ⟨rfl, bel2 HB2.out hb3⟩
  have FP := Lib.hid (HF1.out rfl)
  clear HF1
  have HKS := Lib.hid (show ∀ s ∈ p, s.k.size ≤ 4294967296 from fun s hs => by have := FP.out.2 s hs; omega)
  have hp4 := FP.out.1
  go_wp2_with fail
  refine (path_right_ref p A p.length c w2 rfl hpm (HP.out.below HB2.out (Nat.le_refl _)) HKS.out).mono ?_
  rintro e w3 ⟨r, rfl, hr, hb3⟩
  have HR := Lib.hid hr
  have HB3 := Lib.hid (bel2 HB2.out hb3)
  clear hr hb3 HB2
  go_wp2_with fail
  refine (value_prog p A p.length c w3 rfl hpm (HP.out.below HB3.out (Nat.le_refl _)) HKS.out).mono ?_
  rintro e w4 ⟨b, h', er, rfl, hlies, hb4, hyes, hno⟩
  have HLV := Lib.hid hlies
  have HB4 := Lib.hid (bel2 HB3.out hb4)
  have HYES := Lib.hid hyes
  have HNO := Lib.hid hno
  clear hlies hb4 hyes hno HB3
  go_wp2_with fail
  have hb5 := one_alloc w4 (Obj.cells #[.int .i64 h'.k, .int .i64 h'.n, .string h'.s, .slice h'.A h'.la h'.lc, .slice h'.F h'.lf h'.fc] 25)
  have hcx := Bx.start w4 h' 25
  generalize w4.alloc (Obj.cells #[.int .i64 h'.k, .int .i64 h'.n, .string h'.s, .slice h'.A h'.la h'.lc, .slice h'.F h'.lf h'.fc] 25) = w5 at hb5 hcx ⊢
  have HC5 := Lib.hid hcx
  have HL5 := Lib.hid (HLV.out.below hb5 (Nat.le_refl _))
  have HB5 := Lib.hid (bel2 HB4.out hb5)
  clear hb5 hcx HLV HB4
  refine (path_right p A p.length c w5 rfl hpm (HP.out.below HB5.out (Nat.le_refl _))).mono ?_
  rintro e w6 ⟨r2, rfl, hr2, hb6⟩
  obtain rfl : r2 = r := by
    have a := HR.out
    cases r <;> cases r2
    · rfl
    · exact absurd (a.2 (hr2.1 rfl)) (by decide)
    · exact absurd (hr2.2 (a.1 rfl)) (by decide)
    · rfl
  have HC6 := Lib.hid (HC5.out.go hb6 HC5.out.1)
  have HL6 := Lib.hid (HL5.out.below hb6 (Nat.le_refl _))
  have HB6 := Lib.hid (bel2 HB5.out hb6)
  clear hb6 hr2 HC5 HL5 HB5
  cases r2
  · obtain ⟨rfl, rfl⟩ := HNO.out (fun h => absurd (HR.out.2 h) (by decide))
    have s0 := HC6.out.2 0 _ rfl
    have s1 := HC6.out.2 1 _ rfl
    have s2 := HC6.out.2 2 _ rfl
    have s3 := HC6.out.2 3 _ rfl
    have s4 := HC6.out.2 4 _ rfl
    go_wp2_with fail
    refine (zero_law6 zeroVa _ h' w6 HL6.out).mono ?_
    rintro e w7 ⟨r, rfl, hr, hb7⟩
    obtain rfl : r = true := hr.2 rfl
    clear hr
    go_wp2_with fail
    go_ret
    exact ⟨rfl, bel2 HB6.out hb7⟩
  have HRR := Lib.hid (HR.out.1 rfl)
  obtain ⟨rfl, rfl⟩ := HYES.out HRR.out
  clear HR HYES HNO
  have s0 := HC6.out.2 0 _ rfl
  have s1 := HC6.out.2 1 _ rfl
  have s2 := HC6.out.2 2 _ rfl
  have s3 := HC6.out.2 3 _ rfl
  have s4 := HC6.out.2 4 _ rfl
  go_wp2_with fail
  refine (of_prog (pathVa p) _ h' w6 HL6.out (sh_path FP.out).1 (by have := (sh_path FP.out).2; omega)).mono ?_
  rintro e w7 ⟨A7, n7, c7, ps, er, rfl, hn7, hc7, hP7, hb7, hof⟩
  obtain ⟨rfl, rfl⟩ : er = 0 ∧ ps = p := by
    rw [ofV_path HRR.out] at hof
    rcases hof with ⟨h1, h2⟩ | ⟨_, _, h2⟩
    · cases h2; exact ⟨h1, rfl⟩
    · cases h2
  subst hn7
  have HC7 := Lib.hid (HC6.out.go hb7 HC6.out.1)
  have HL7 := Lib.hid (HL6.out.below hb7 (Nat.le_refl _))
  have HB7 := Lib.hid (bel2 HB6.out hb7)
  have HP7 := Lib.hid hP7
  clear hb7 hP7 hof HC6 HL6 HB6 s0 s1 s2 s3 s4
  have hbd : Below w7.heap.size w7 w7.drew := (Below.refl _ _).drew
  have HS0 := Lib.hid (S5.of (HC7.out.go hbd HC7.out.1))
  have HS1 := Lib.hid (show ∀ wF, Below w7.drew.heap.size w7.drew wF → S5 w4.heap.size h' wF from fun wF hb => S5.of (HC7.out.go (bel2 hbd hb) HC7.out.1))
  have HS2 := Lib.hid (show ∀ wF wG, Below w7.drew.heap.size w7.drew wF → Below wF.heap.size wF wG → S5 w4.heap.size h' wG from fun wF wG hb hc => HS1.out wG (bel2 hb hc))
  have HS3 := Lib.hid (show ∀ wF wG wH, Below w7.drew.heap.size w7.drew wF → Below wF.heap.size wF wG → Below wG.heap.size wG wH → S5 w4.heap.size h' wH from fun wF wG wH hb hc hd => HS1.out wH (bel2 (bel2 hb hc) hd))
  have HV := Lib.hid (value_ref ps A ps.length c w7.drew rfl (by omega) (HP.out.below (bel2 HB7.out hbd) (Nat.le_refl _)))
  have HSA := Lib.hid (show ∀ wF (hh : Hd), Below w7.drew.heap.size w7.drew wF → Lies wF (fun _ => True) (pathVa ps) hh → Calls Try.prog 24 #[h'.val, hh.val] wF (SameR (pathVa ps) (pathVa ps) wF) from fun wF hh hb hl => same_ref _ _ _ _ h' hh wF (HL7.out.below (bel2 hbd hb) (Nat.le_refl _)) hl)
  have HSB := Lib.hid (show ∀ wF wG, Below w7.drew.heap.size w7.drew wF → Below wF.heap.size wF wG → Calls Try.prog 47 #[.slice A ps.length c, .slice A7 ps.length c7] wG (YesNo (ps = ps) wG) from fun wF wG hb hc => path_same_ref ps ps A A7 ps.length ps.length c c7 wG rfl rfl (HP.out.below (bel2 HB7.out (bel2 hbd (bel2 hb hc))) (Nat.le_refl _)) (HP7.out.below (bel2 hbd (bel2 hb hc)) (Nat.le_refl _)) (by omega) hpm)
  have HBD := Lib.hid (bel2 HB7.out hbd)
  unfold Hd.val at HSA
  clear hbd
  go_wp2_with fail
  go_region_held3 (fun w' => w'.cell? ⟨w4.heap.size, 0, none⟩ = some (.int .i64 h'.k) ∧ w'.cell? ⟨w4.heap.size, 1, none⟩ = some (.int .i64 h'.n) ∧ w'.cell? ⟨w4.heap.size, 2, none⟩ = some (.string h'.s) ∧ w'.cell? ⟨w4.heap.size, 3, none⟩ = some (.slice h'.A h'.la h'.lc) ∧ w'.cell? ⟨w4.heap.size, 4, none⟩ = some (.slice h'.F h'.lf h'.fc))
      (first
        | (have h7 := HS3.out _ _ _ hbF hbG hbH; with_reducible exact h7)
        | (have h7 := HS2.out _ _ hbF hbG; with_reducible exact h7)
        | (have h7 := HS1.out _ hbF; with_reducible exact h7)
        | (have h7 := HS0.out; with_reducible exact h7)
        | fail)
      (first
        | (go_at_call 47; refine (HSB.out _ _ hbF hbG).mono ?_; rintro e wH ⟨r3, rfl, hr3, hbH⟩; obtain rfl : r3 = true := hr3.2 trivial)
        | (go_at_call 24; refine (HSA.out _ _ hbF hlF).mono ?_; rintro e wG ⟨r2, rfl, hr2, hbG⟩; obtain rfl : r2 = true := hr2.2 rfl)
        | (go_at_call 46; refine HV.out.mono ?_; rintro e wF ⟨hh, rfl, hlF, hbF⟩)
        | fail)
  have HZ := Lib.hid (bel2 (bel2 (bel2 HBD.out hbF) hbG) hbH)
  clear hbF hbG hbH hr2 hr3 hlF
  go_wp2_with fail
  go_ret
  exact ⟨rfl, HZ.out⟩
theorem own : ownKnob Try.prog.godebug = none := by kernel_rfl
theorem laidOut : laidOutB Try.prog = true := by kernel_rfl
set_option maxRecDepth 100000 in
theorem lifted (os : Os) (started : os.Started) (H : Type) (enc : TypeId × Value → H) :
    ReturnsInHanded {} Try.checked os 9 .any (Rows.pathRightSpec.pre6 enc Try.prog Try.f9 Rows.pathRightRow.domain false) (Rows.pathRightSpec.post enc Try.prog Try.f9 false true false false) := by
  refine returnsInHanded_of_change (C := Try.checked) own started (by kernel_rfl) Try.func9
    (ChangeSpec.witness6 (enc := enc) (C := Try.checked) false ⟨#[], #[.slice none 0 0], []⟩ 8 (by kernel_rfl) (by kernel_rfl) (by kernel_rfl) (by kernel_rfl)) ?_
  intro W base args ds gs before hval0 hW hcnd _
  have hval : ∀ (j : Nat) t v, Try.f9.params[j]? = some t → args[j]? = some v → Value.okWide Try.prog W .any base t v := hval0
  have hW' := hW
  obtain ⟨p, q, hA0, hV, rfl, hfz, hnd⟩ := hW
  have hA : DataW.TrodAll enc Try.prog W 0 (fun _ => true) true Try.f9.params.toList args.toList ds p := hA0
  rw [Try.params9] at hA hval
  obtain ⟨v0, vs0, d0, ds0, p0, q0, hargs, rfl, rfl, h0, r0⟩ := trodAll_cons hA
  obtain ⟨rfl, rfl, rfl⟩ := trodAll_nil r0
  obtain rfl : args = #[v0] := by cases args; simp_all
  obtain ⟨rfl, rfl⟩ := trodVars_none hV
  have k0 := h0
  have lt0 : ∀ x ∈ p0, x.block < W.heap.size := by obtain ⟨m, hm⟩ := k0; exact DataW.trod_lt m _ _ _ hm
  obtain ⟨a0, n0, c0, z0, rfl, w0⟩ := open_path (hval 0 50 v0 rfl rfl) h0
  clear hA0 hval0
  refine (walk W a0 n0 c0 z0 w0).mono fun e W' ⟨he, bel⟩ => ?_
  subst he
  exact ⟨_, rfl, _, _, _, [], _, [], hW', trodAll_mk1 (shut_bool Try.underlying4 _), (trodAll_cons_mk (Below.trod laidOut (by kernel_rfl) (of_decide_eq_true (by kernel_rfl)) k0 bel lt0) trodAll_mk0), rfl, bel.frame _, fun h => by cases h⟩
theorem over : Rows.pathRightRow.holds Try.pinned (OpenSpec.ofChange Rows.pathRightSpec) :=
  OpenClaim.holds_of_wide 9 Try.f9 rfl rfl rfl rfl rfl rfl rfl ⟨rfl, rfl, rfl, rfl, rfl⟩ rfl rfl rfl rfl rfl (by kernel_rfl) Try.func9 (by kernel_rfl)
    (of_decide_eq_true (by kernel_rfl)) (by unfold Func.isWrapper; first | (rw [if_pos (by decide +kernel)]; kernel_rfl) | (rw [if_neg (by decide +kernel)]; exact ⟨rfl, rfl⟩))
    (fun os started H enc _ => lifted os started H enc)
theorem proved : Rows.PathRightSaid := over
end Go.Proofs.Ytmdlcalnncncjaa.pathRight
namespace Go.Proofs.Ytmdlcalnncncjaa
theorem pathRight_holds : Rows.PathRightSaid := pathRight.proved
#print axioms pathRight_holds
end Go.Proofs.Ytmdlcalnncncjaa
