/- 'cascadelaw01.TextNames' returns true at every input, and leaves it as it was: text.Name tells of all bytes just what the document's own answer tells; a name is a text. No condition. -/
import Derived.Test.YtbfgekfajbbdaaaRows
import Derived.Test.YtbfgekfajbbdaaaWalksB
import Derived.WalkKit
import Derived.ProofKit
import Derived.OpenShut
import Derived.ShutString
import Derived.ChangeOld
import Derived.Below
set_option linter.unusedVariables false
set_option linter.unusedSimpArgs false
namespace Go.Proofs.Ytbfgekfajbbdaaa.textNames
open Go.ChangeShapes Go.WideShapes Go.ChangeAt Go.RowKit
open Go.ChangeMaps (open_string shut_string)

theorem own : ownKnob Try.prog.godebug = none := by kernel_rfl
theorem Below_next {w w1 w2 : World} (h : Below w.heap.size w w1) (k : Below w1.heap.size w1 w2) : Below w.heap.size w w2 := h.trans (k.mono h.size)
theorem walk (a0 : ByteArray) (w0 : a0.size ≤ maxLen) (w : World) :
    Calls Try.prog 6 #[.string a0] w fun e w' => e = .returned (.bool true) ∧ Below w.heap.size w w' := by
  have hs := w0
  unfold maxLen at hs
  have HB : Below w.heap.size w w := Below.refl _ _
  by_cases hl : 200 < a0.size
  · go_enter Try.func6, Try.ntmps6
    go_wp2_with (go_at_call 9; refine (awake_any _).mono ?_; rintro e w1 ⟨rfl, hb⟩; replace HB := Below_next HB hb; clear hb)
    go_ret
    exact ⟨rfl, HB⟩
  · cases hn : nameB a0
    · go_enter Try.func6, Try.ntmps6
      go_wp2_with (first | (go_at_call 9; refine (awake_any _).mono ?_; rintro e w1 ⟨rfl, hb⟩; replace HB := Below_next HB hb; clear hb) | (go_at_call 18; refine (name_any _ w0 _).mono ?_; rintro e w2 ⟨rfl, hb⟩; replace HB := Below_next HB hb; clear hb) | (go_at_call 19; refine (name_ref _ w0 _).mono ?_; rintro e w3 ⟨rfl, rfl⟩))
      go_ret
      exact ⟨rfl, HB⟩
    · have hr : rightB a0 = true := by unfold rightB; rw [bad_name a0 hn]; rfl
      go_enter Try.func6, Try.ntmps6
      go_wp2_with (first | (go_at_call 9; refine (awake_any _).mono ?_; rintro e w1 ⟨rfl, hb⟩; replace HB := Below_next HB hb; clear hb) | (go_at_call 18; refine (name_any _ w0 _).mono ?_; rintro e w2 ⟨rfl, hb⟩; replace HB := Below_next HB hb; clear hb) | (go_at_call 19; refine (name_ref _ w0 _).mono ?_; rintro e w3 ⟨rfl, rfl⟩) | (go_at_call 12; refine (right_any _ w0 _).mono ?_; rintro e w2 ⟨rfl, hb⟩; replace HB := Below_next HB hb; clear hb))
      go_ret
      exact ⟨rfl, HB⟩
set_option maxRecDepth 100000 in
theorem lifted (os : Os) (started : os.Started) (H : Type) (enc : TypeId × Value → H) :
    ReturnsInHanded {} Try.checked os 6 .any (Rows.textNamesSpec.pre6 enc Try.prog Try.f6 Rows.textNamesRow.domain false) (Rows.textNamesSpec.post enc Try.prog Try.f6 false true false false) := by
  refine returnsInHanded_of_change (C := Try.checked) own started (by kernel_rfl) Try.func6
    (ChangeSpec.witness6 (enc := enc) (C := Try.checked) false ⟨#[], #[.string ByteArray.empty], []⟩ 8 (by kernel_rfl) (by kernel_rfl) (by kernel_rfl) (by kernel_rfl)) ?_
  intro W base args ds gs before hval0 hW hcnd _
  have hval : ∀ (j : Nat) t v, Try.f6.params[j]? = some t → args[j]? = some v → Value.okWide Try.prog W .any base t v := hval0
  have hW' := hW
  obtain ⟨p, q, hA0, hV, rfl, hfz, hnd⟩ := hW
  have hA : DataW.TrodAll enc Try.prog W 0 (fun _ => true) true Try.f6.params.toList args.toList ds p := hA0
  rw [Try.params6] at hA hval
  obtain ⟨v0, vs0, d0, ds0, p0, q0, hargs, rfl, rfl, h0, r0⟩ := trodAll_cons hA
  obtain ⟨rfl, rfl, rfl⟩ := trodAll_nil r0
  obtain rfl : args = #[v0] := by cases args; simp_all
  obtain ⟨rfl, rfl⟩ := trodVars_none hV
  obtain ⟨a0, rfl, rfl, rfl, w0⟩ := open_string Try.underlying9 (hval 0 9 v0 rfl rfl) h0
  clear hA0 hval0
  simp only [List.append_nil] at hW'
  refine (walk a0 w0 W).mono fun e W' ⟨he, hg⟩ => ?_
  subst he
  exact ⟨_, rfl, _, _, _, [], [], [], hW', trodAll_mk1 (shut_bool Try.underlying4 _), (trodAll_cons_mk (shut_string Try.underlying9 w0) trodAll_mk0), rfl, hg.frame _, fun h => by cases h⟩

theorem over : Rows.textNamesRow.holds Try.pinned (OpenSpec.ofChange Rows.textNamesSpec) :=
  OpenClaim.holds_of_wide 6 Try.f6 rfl rfl rfl rfl rfl rfl rfl ⟨rfl, rfl, rfl, rfl, rfl⟩ rfl rfl rfl rfl rfl (by kernel_rfl) Try.func6 (by kernel_rfl)
    (of_decide_eq_true (by kernel_rfl)) (by unfold Func.isWrapper; first | (rw [if_pos (by decide +kernel)]; kernel_rfl) | (rw [if_neg (by decide +kernel)]; exact ⟨rfl, rfl⟩))
    (fun os started H enc _ => lifted os started H enc)

theorem proved : Rows.TextNamesSaid :=
  over
end Go.Proofs.Ytbfgekfajbbdaaa.textNames
namespace Go.Proofs.Ytbfgekfajbbdaaa
theorem textNames_holds : Rows.TextNamesSaid := textNames.proved
#print axioms textNames_holds
end Go.Proofs.Ytbfgekfajbbdaaa
