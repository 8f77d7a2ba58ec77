/- 'cascadelaw01.TextRight' returns true at every input, and leaves it as it was: text.Bad, Right and Runes tell of all bytes what the document's own answers tell. No condition. -/
import Derived.Test.YtbfgekfajbbdaaaRows
import Derived.Test.YtbfgekfajbbdaaaWalksH
import Derived.ProofKit
import Derived.OpenShut
import Derived.ShutString
import Derived.ChangeOld
set_option linter.unusedVariables false
set_option linter.unusedSimpArgs false
namespace Go.Proofs.Ytbfgekfajbbdaaa.textRight
open Go.ChangeShapes Go.WideShapes Go.ChangeAt Go.RowKit
open Go.ChangeMaps (open_string shut_string)

theorem own : ownKnob Try.prog.godebug = none := by kernel_rfl
theorem runesF_le (s : ByteArray) : ∀ f i, (runesF s f i).length ≤ f
  | 0, _ => by simp [runesF]
  | f + 1, i => by
    have := runesF_le s f (i + (Utf8.decode s i).2)
    rw [runesF]; split <;> simp; omega
theorem runesI_le (s : ByteArray) : (runesI s).length ≤ s.size + 1 := by
  unfold runesI; split
  · exact runesF_le s _ _
  · simp
def ints (l : List Nat) : List Int := l.map fun (r : Nat) => (r : Int)
theorem i32s_eq (l : List Nat) : i32s l = (ints l).map (Value.int .i32) := by simp [i32s, ints]
theorem Below_next {w w1 w2 : World} (h : Below w.heap.size w w1) (k : Below w1.heap.size w1 w2) : Below w.heap.size w w2 := h.trans (k.mono h.size)
theorem runes_go (s : ByteArray) (hs : s.size ≤ 4294967296) (w : World) : Calls Try.prog 14 #[.string s] w fun e w' => ∃ A c, e = .returned (.slice A (runesI s).length c) ∧ Rd w' A (runesI s).length ((ints (runesI s)).map (Value.int .i32)) ∧ Below w.heap.size w w' :=
  (runes_any s hs w).mono fun _ _ ⟨v, he, ho, hb⟩ => by
    rw [i32s_eq] at ho
    obtain ⟨A, c, hv, hr, _⟩ := Rd.own ho
    exact ⟨A, c, by rw [he, hv], hr, hb⟩
theorem runes_go_ref (s : ByteArray) (hs : s.size ≤ 4294967296) (w : World) : Calls Try.prog 15 #[.string s] w fun e w' => ∃ A c, e = .returned (.slice A (runesI s).length c) ∧ Rd w' A (runesI s).length ((ints (runesI s)).map (Value.int .i32)) ∧ Below w.heap.size w w' :=
  (runes_ref s hs w).mono fun _ _ ⟨v, he, ho, hb⟩ => by
    rw [i32s_eq] at ho
    obtain ⟨A, c, hv, hr, _⟩ := Rd.own ho
    exact ⟨A, c, by rw [he, hv], hr, hb⟩
set_option maxHeartbeats 400000 in
theorem walk (a0 : ByteArray) (w0 : a0.size ≤ maxLen) (w : World) :
    Calls Try.prog 3 #[.string a0] w fun e w' => e = .returned (.bool true) ∧ Below w.heap.size w w' := by
  have hs := w0
  unfold maxLen at hs
  have HB : Below w.heap.size w w := Below.refl _ _
  by_cases hl : 400 < a0.size
  · go_enter Try.func3, Try.ntmps3
    go_wp2_with (go_at_call 9; refine (awake_any _).mono ?_; rintro e w1 ⟨rfl, hb⟩; replace HB := Below_next HB hb; clear hb)
    go_ret
    exact ⟨rfl, HB⟩
  · have hsz : a0.size ≤ 4294967296 := by omega
    have hrl := runesI_le a0
    have hri := right_iff a0
    go_enter Try.func3, Try.ntmps3
    go_wp2_with (first | (go_at_call 9; refine (awake_any _).mono ?_; rintro e w1 ⟨rfl, hb⟩; replace HB := Below_next HB hb; clear hb) | (go_at_call 10; refine (bad_ref a0 hsz _).mono ?_; rintro e w2 ⟨rfl, rfl⟩) | (go_at_call 11; refine (bad_any a0 w0 _).mono ?_; rintro e w1 ⟨rfl, hb⟩; replace HB := Below_next HB hb; clear hb) | (go_at_call 12; refine (right_any a0 w0 _).mono ?_; rintro e w1 ⟨rfl, hb⟩; replace HB := Below_next HB hb; clear hb))
    refine (runes_go a0 hsz _).mono ?_
    rintro e w2 ⟨A, c, rfl, hrA, hb⟩
    replace HB := Below_next HB hb
    clear hb
    go_wp2_with fail
    refine (runes_go_ref a0 hsz _).mono ?_
    rintro e w3 ⟨A2, c2, rfl, hrB, hb⟩
    replace HB := Below_next HB hb
    replace hrA := hrA.below hb (Nat.le_refl _)
    clear hb
    go_wp2_with fail
    refine (same_true A A2 _ c c2 _ _ (by omega) hrA hrB).mono ?_
    rintro e w4 ⟨rfl, hb⟩
    replace HB := Below_next HB hb
    clear hb
    go_wp2
    go_ret
    exact ⟨rfl, HB⟩
set_option maxRecDepth 100000 in
theorem lifted (os : Os) (started : os.Started) (H : Type) (enc : TypeId × Value → H) :
    ReturnsInHanded {} Try.checked os 3 .any (Rows.textRightSpec.pre6 enc Try.prog Try.f3 Rows.textRightRow.domain false) (Rows.textRightSpec.post enc Try.prog Try.f3 false true false false) := by
  refine returnsInHanded_of_change (C := Try.checked) own started (by kernel_rfl) Try.func3
    (ChangeSpec.witness6 (enc := enc) (C := Try.checked) false ⟨#[], #[.string ByteArray.empty], []⟩ 8 (by kernel_rfl) (by kernel_rfl) (by kernel_rfl) (by kernel_rfl)) ?_
  intro W base args ds gs before hval0 hW hcnd _
  have hval : ∀ (j : Nat) t v, Try.f3.params[j]? = some t → args[j]? = some v → Value.okWide Try.prog W .any base t v := hval0
  have hW' := hW
  obtain ⟨p, q, hA0, hV, rfl, hfz, hnd⟩ := hW
  have hA : DataW.TrodAll enc Try.prog W 0 (fun _ => true) true Try.f3.params.toList args.toList ds p := hA0
  rw [Try.params3] at hA hval
  obtain ⟨v0, vs0, d0, ds0, p0, q0, hargs, rfl, rfl, h0, r0⟩ := trodAll_cons hA
  obtain ⟨rfl, rfl, rfl⟩ := trodAll_nil r0
  obtain rfl : args = #[v0] := by cases args; simp_all
  obtain ⟨rfl, rfl⟩ := trodVars_none hV
  obtain ⟨a0, rfl, rfl, rfl, w0⟩ := open_string Try.underlying9 (hval 0 9 v0 rfl rfl) h0
  clear hA0 hval0
  simp only [List.append_nil] at hW'
  refine (walk a0 w0 W).mono fun e W' ⟨he, hg⟩ => ?_
  subst he
  exact ⟨_, rfl, _, _, _, [], [], [], hW', trodAll_mk1 (shut_bool Try.underlying4 _), (trodAll_cons_mk (shut_string Try.underlying9 w0) trodAll_mk0), rfl, hg.frame _, fun h => by cases h⟩

theorem over : Rows.textRightRow.holds Try.pinned (OpenSpec.ofChange Rows.textRightSpec) :=
  OpenClaim.holds_of_wide 3 Try.f3 rfl rfl rfl rfl rfl rfl rfl ⟨rfl, rfl, rfl, rfl, rfl⟩ rfl rfl rfl rfl rfl (by kernel_rfl) Try.func3 (by kernel_rfl)
    (of_decide_eq_true (by kernel_rfl)) (by unfold Func.isWrapper; first | (rw [if_pos (by decide +kernel)]; kernel_rfl) | (rw [if_neg (by decide +kernel)]; exact ⟨rfl, rfl⟩))
    (fun os started H enc _ => lifted os started H enc)

theorem proved : Rows.TextRightSaid :=
  over
end Go.Proofs.Ytbfgekfajbbdaaa.textRight
namespace Go.Proofs.Ytbfgekfajbbdaaa
theorem textRight_holds : Rows.TextRightSaid := textRight.proved
#print axioms textRight_holds
end Go.Proofs.Ytbfgekfajbbdaaa
