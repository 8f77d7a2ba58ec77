/- 'cascadelaw01.TextOf' returns true at every input, and leaves it as it was: text.Of tells of all runes the text that the document's own answer tells, or ErrText; from the text they come again. No condition. -/
import Derived.Test.YtbfgekfajbbdaaaRows
import Derived.Test.YtbfgekfajbbdaaaWalksO
import Derived.Test.YtbfgekfajbbdaaaTextBack
set_option linter.unusedVariables false
set_option linter.unusedSimpArgs false
namespace Go.Proofs.Ytbfgekfajbbdaaa.textOf
open Go.Proofs.Ytbfgekfajbbdaaa.textBack (runes_go)
open Go.ChangeShapes Go.WideShapes Go.ChangeAt Go.RowKit
open Go.ChangeMaps (open_string shut_string)
theorem Below_next {w w1 w2 : World} (h : Below w.heap.size w w1) (k : Below w1.heap.size w1 w2) : Below w.heap.size w w2 := h.trans (k.mono h.size)
set_option maxHeartbeats 1000000 in
set_option maxRecDepth 100000 in
theorem walk (w : World) (a0 : Option Addr) (l0 c0 : Nat) (z0 : List Int) (w0 : IsInts .i32 w a0 l0 z0) :
    Calls Try.prog 4 #[.slice a0 l0 c0] w fun e w' => e = .returned (.bool true) ∧ Below w.heap.size w w' := by
  obtain ⟨hrd, hml, hwf⟩ := w0
  unfold maxLen at hml
  have HB : Below w.heap.size w w := Below.refl _ _
  by_cases hl : 200 < l0
  · go_enter Try.func4, Try.ntmps4
    go_wp2_with (go_at_call 9; refine (awake_any _).mono ?_; rintro e w1 ⟨rfl, hb⟩; replace HB := Below_next HB hb; clear hb)
    go_ret
    exact ⟨rfl, HB⟩
  · have hbd : ∀ z ∈ z0, -2147483648 ≤ z ∧ z ≤ 2147483647 := fun z hz => bounds_i32 (hwf z hz)
    have hlen : z0.length = l0 := by have := hrd.1; simpa using this
    have HBD := Lib.hid hbd
    have HLEN := Lib.hid hlen
    clear hwf hbd hlen
    cases hall : z0.all isR
    · have HOR : Hid (ofR z0 = (⟨#[]⟩, 2)) := by unfold ofR; rw [hall]; rfl
      go_enter Try.func4, Try.ntmps4
      go_wp2_with (go_at_call 9; refine (awake_any _).mono ?_; rintro e w1 ⟨rfl, hb⟩; replace HB := Below_next HB hb; clear hb)
      refine (of_no a0 l0 c0 z0 _ (by omega) (hrd.below HB (Nat.le_refl _)) hall).mono ?_
      rintro e w2 ⟨rfl, rfl⟩
      go_wp2_with fail
      refine (of_ref a0 l0 c0 z0 _ (by omega) HBD.out (hrd.below HB (Nat.le_refl _))).mono ?_
      rw [HOR.out]
      rintro e w3 ⟨rfl, hb⟩
      replace HB := Below_next HB hb
      clear hb
      go_wp2
      go_ret
      exact ⟨rfl, HB⟩
    · have HOR : Hid (ofR z0 = (⟨(ofS z0).toArray⟩, 0)) := by unfold ofR; rw [hall]; rfl
      obtain ⟨hrt, hrn⟩ := of_back z0 hall
      have hsl : (ofS z0).length ≤ 800 := by have := ofS_len z0; have := HLEN.out; omega
      have hsz : (⟨(ofS z0).toArray⟩ : ByteArray).size ≤ 4294967296 := by rw [Lib.size_eq]; simp; omega
      have hnn : (runesI ⟨(ofS z0).toArray⟩).length = l0 := by
        have e := congrArg List.length hrn
        simp only [ints, List.length_map] at e
        rw [e]; exact HLEN.out
      have HRN := Lib.hid hrn
      have HNN := Lib.hid hnn
      generalize hS : (⟨(ofS z0).toArray⟩ : ByteArray) = S at *
      have hof := fun W h => of_yes a0 l0 c0 z0 W (by omega) h hall
      rw [hS] at hof
      have HOF := Lib.hid hof
      clear hof hrn hnn hsl hall hrt hS
      go_enter Try.func4, Try.ntmps4
      go_wp2_with (go_at_call 9; refine (awake_any _).mono ?_; rintro e w1 ⟨rfl, hb⟩; replace HB := Below_next HB hb; clear hb)
      refine (HOF.out _ (hrd.below HB (Nat.le_refl _))).mono ?_
      rintro e w2 ⟨rfl, hb⟩
      replace HB := Below_next HB hb
      clear hb
      go_wp2_with fail
      refine (of_ref a0 l0 c0 z0 _ (by omega) HBD.out (hrd.below HB (Nat.le_refl _))).mono ?_
      rw [HOR.out]
      rintro e w3 ⟨rfl, hb⟩
      replace HB := Below_next HB hb
      clear hb
      go_wp2_with fail
      refine (runes_go S hsz l0 HNN.out _).mono ?_
      rintro e w4 ⟨A, c, rfl, hrA, hb⟩
      replace HB := Below_next HB hb
      clear hb
      rw [HRN.out] at hrA
      go_wp2_with fail
      refine (same_true A a0 l0 c c0 z0 _ (by omega) hrA (hrd.below HB (Nat.le_refl _))).mono ?_
      rintro e w5 ⟨rfl, hb⟩
      replace HB := Below_next HB hb
      clear hb
      go_wp2
      go_ret
      exact ⟨rfl, HB⟩
theorem own : ownKnob Try.prog.godebug = none := by kernel_rfl
theorem laidOut : laidOutB Try.prog = true := by kernel_rfl
set_option maxRecDepth 100000 in
theorem lifted (os : Os) (started : os.Started) (H : Type) (enc : TypeId × Value → H) :
    ReturnsInHanded {} Try.checked os 4 .any (Rows.textOfSpec.pre6 enc Try.prog Try.f4 Rows.textOfRow.domain false) (Rows.textOfSpec.post enc Try.prog Try.f4 false true false false) := by
  refine returnsInHanded_of_change (C := Try.checked) own started (by kernel_rfl) Try.func4
    (ChangeSpec.witness6 (enc := enc) (C := Try.checked) false ⟨#[], #[.slice none 0 0], []⟩ 8 (by kernel_rfl) (by kernel_rfl) (by kernel_rfl) (by kernel_rfl)) ?_
  intro W base args ds gs before hval0 hW hcnd _
  have hval : ∀ (j : Nat) t v, Try.f4.params[j]? = some t → args[j]? = some v → Value.okWide Try.prog W .any base t v := hval0
  have hW' := hW
  obtain ⟨p, q, hA0, hV, rfl, hfz, hnd⟩ := hW
  have hA : DataW.TrodAll enc Try.prog W 0 (fun _ => true) true Try.f4.params.toList args.toList ds p := hA0
  rw [Try.params4] at hA hval
  obtain ⟨v0, vs0, d0, ds0, p0, q0, hargs, rfl, rfl, h0, r0⟩ := trodAll_cons hA
  obtain ⟨rfl, rfl, rfl⟩ := trodAll_nil r0
  obtain rfl : args = #[v0] := by cases args; simp_all
  obtain ⟨rfl, rfl⟩ := trodVars_none hV
  have k0 := h0
  have lt0 : ∀ x ∈ p0, x.block < W.heap.size := by obtain ⟨m, hm⟩ := k0; exact DataW.trod_lt m _ _ _ hm
  obtain ⟨a0, l0, c0, rfl⟩ := okWide_slice Try.underlying26 (hval 0 26 v0 rfl rfl)
  obtain ⟨z0, w0⟩ := is_ints Try.underlying26 Try.underlying21 (by kernel_rfl) h0
  clear hA0 hval0
  refine (walk W a0 l0 c0 z0 w0).mono fun e W' ⟨he, bel⟩ => ?_
  subst he
  exact ⟨_, rfl, _, _, _, [], _, [], hW', trodAll_mk1 (shut_bool Try.underlying4 _), (trodAll_cons_mk (Below.trod laidOut (by kernel_rfl) (of_decide_eq_true (by kernel_rfl)) k0 bel lt0) trodAll_mk0), rfl, bel.frame _, fun h => by cases h⟩
theorem over : Rows.textOfRow.holds Try.pinned (OpenSpec.ofChange Rows.textOfSpec) :=
  OpenClaim.holds_of_wide 4 Try.f4 rfl rfl rfl rfl rfl rfl rfl ⟨rfl, rfl, rfl, rfl, rfl⟩ rfl rfl rfl rfl rfl (by kernel_rfl) Try.func4 (by kernel_rfl)
    (of_decide_eq_true (by kernel_rfl)) (by unfold Func.isWrapper; first | (rw [if_pos (by decide +kernel)]; kernel_rfl) | (rw [if_neg (by decide +kernel)]; exact ⟨rfl, rfl⟩))
    (fun os started H enc _ => lifted os started H enc)
theorem proved : Rows.TextOfSaid := over
end Go.Proofs.Ytbfgekfajbbdaaa.textOf
namespace Go.Proofs.Ytbfgekfajbbdaaa
theorem textOf_holds : Rows.TextOfSaid := textOf.proved
#print axioms textOf_holds
end Go.Proofs.Ytbfgekfajbbdaaa
