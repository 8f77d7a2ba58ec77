/- 'cascadelaw01.TextLines' returns true at every input, and leaves it as it was: text.Lines tells of all bytes the lines that the document's own answer tells. No condition. -/
import Derived.Test.YtbfgekfajbbdaaaRows
import Derived.Test.YtbfgekfajbbdaaaWalksE
import Derived.ProofKit
import Derived.OpenShut
import Derived.ShutString
import Derived.ChangeOld
import Derived.Deep.QuietTactic
import Derived.BigQuiet
set_option linter.unusedVariables false
set_option linter.unusedSimpArgs false
namespace Go.Proofs.Ytbfgekfajbbdaaa.textLines
open Go.ChangeShapes Go.WideShapes Go.ChangeAt Go.RowKit
open Go.ChangeMaps (open_string shut_string)

theorem own : ownKnob Try.prog.godebug = none := by kernel_rfl
theorem linesT_pos (s : ByteArray) : ∀ n f i, 0 < (linesT s n f i).length
  | 0, _, _ => by simp [linesT]
  | n + 1, f, i => by
    have h1 := linesT_pos s n (i + 1) (i + 1)
    have h2 := linesT_pos s n f (i + 1)
    rw [linesT]; repeat' split
    all_goals simp; try omega
theorem linesT_le (s : ByteArray) : ∀ n f i, (linesT s n f i).length ≤ n + 1
  | 0, _, _ => by simp [linesT]
  | n + 1, f, i => by
    have h1 := linesT_le s n (i + 1) (i + 1)
    have h2 := linesT_le s n f (i + 1)
    rw [linesT]; repeat' split
    all_goals simp; try omega
/-- A row of strings that stands in the world. -/
def Row (w : World) (g : Nat) (L : List ByteArray) : Prop := g < w.heap.size ∧ ∀ j x, L[j]? = some x → w.cell? ⟨g, j, none⟩ = some (.string x)
theorem Row.below {w w' : World} {g B : Nat} {L : List ByteArray} (h : Row w g L) (hb : Below B w w') (hB : w.heap.size ≤ B) : Row w' g L :=
  ⟨by have := h.1; have := hb.size; omega, fun j x hx => (hb.cell (p := ⟨g, j, none⟩) (by have := h.1; show g < B; omega)).trans (h.2 j x hx)⟩
theorem row_of {w w' : World} {s : ByteArray} {v : Value} (hown : w'.ownsRow w.heap.size 9 1 v (linesFrom s 0 0).length ((linesFrom s 0 0).map Value.string)) :
    ∃ g cap, v = .slice (some ⟨g, 0, none⟩) (linesFrom s 0 0).length cap ∧ Row w' g (linesFrom s 0 0) := by
  obtain ⟨g, cap, hv⟩ := Joins.ownsRow_form hown (linesT_pos s _ 0 0)
  subst hv
  refine ⟨g, cap, rfl, (hown.lt g rfl).2, fun j x hx => ?_⟩
  have hj : j < (linesFrom s 0 0).length := (List.getElem?_eq_some_iff.1 hx).1
  rw [hown.cellAt j (by omega)]; simp [hx]
theorem lines_go (s : ByteArray) (hs : s.size ≤ 4294967296) (w : World) : Calls Try.prog 20 #[.string s] w fun e w' => ∃ g cap, e = .returned (.slice (some ⟨g, 0, none⟩) (linesFrom s 0 0).length cap) ∧ Row w' g (linesFrom s 0 0) ∧ Below w.heap.size w w' :=
  (lines_any s hs w).mono fun _ _ ⟨v, he, ho, hb⟩ => by
    obtain ⟨g, cap, hv, hr⟩ := row_of ho
    exact ⟨g, cap, by rw [he, hv], hr, hb⟩
theorem lines_go_ref (s : ByteArray) (hs : s.size ≤ 4294967296) (w : World) : Calls Try.prog 21 #[.string s] w fun e w' => ∃ g cap, e = .returned (.slice (some ⟨g, 0, none⟩) (linesFrom s 0 0).length cap) ∧ Row w' g (linesFrom s 0 0) ∧ Below w.heap.size w w' :=
  (lines_ref s hs w).mono fun _ _ ⟨v, he, ho, hb⟩ => by
    obtain ⟨g, cap, hv, hr⟩ := row_of ho
    exact ⟨g, cap, by rw [he, hv], hr, hb⟩
theorem Below_next {w w1 w2 : World} (h : Below w.heap.size w w1) (k : Below w1.heap.size w1 w2) : Below w.heap.size w w2 := h.trans (k.mono h.size)
set_option maxHeartbeats 400000 in
theorem walk (a0 : ByteArray) (w0 : a0.size ≤ maxLen) (w : World) :
    Calls Try.prog 7 #[.string a0] w fun e w' => e = .returned (.bool true) ∧ Below w.heap.size w w' := by
  have hs := w0
  unfold maxLen at hs
  have HB : Below w.heap.size w w := Below.refl _ _
  by_cases hl : 400 < a0.size
  · go_enter Try.func7, Try.ntmps7
    go_wp2_with (go_at_call 9; refine (awake_any _).mono ?_; rintro e w1 ⟨rfl, hb⟩; replace HB := Below_next HB hb; clear hb)
    go_ret
    exact ⟨rfl, HB⟩
  · have hsz : a0.size ≤ 4294967296 := by omega
    have hn : (linesFrom a0 0 0).length ≤ 401 := by have := linesT_le a0 (a0.size - 0) 0 0; unfold linesFrom; omega
    go_enter Try.func7, Try.ntmps7
    go_wp2_with (go_at_call 9; refine (awake_any _).mono ?_; rintro e w1 ⟨rfl, hb⟩; replace HB := Below_next HB hb; clear hb)
    refine (lines_go a0 hsz _).mono ?_
    rintro e w2 ⟨g, cap, rfl, hr, hb⟩
    replace HB := Below_next HB hb
    clear hb
    go_wp2_with fail
    refine (lines_go_ref a0 hsz _).mono ?_
    rintro e w3 ⟨g2, cap2, rfl, hr2, hb⟩
    replace HB := Below_next HB hb
    replace hr := hr.below hb (Nat.le_refl _)
    clear hb
    generalize hL : linesFrom a0 0 0 = L at *
    clear hL
    go_wp2
    go_loopw [5] (fun i wr => ∃ k : Nat, k ≤ L.length ∧ i = .int .i64 k ∧ Below w3.heap.size w3 wr) (fun i _ => L.length - (intOf i).toNat)
    case atStart => exact ⟨0, Nat.zero_le _, rfl, Below.refl _ _⟩
    case round =>
      obtain ⟨k, hk, rfl, hbr⟩ := hrel
      by_cases hlt : k < L.length
      · obtain ⟨x, hx⟩ : ∃ x, L[k]? = some x := ⟨L[k], List.getElem?_eq_getElem hlt⟩
        have c1 := (hr.below hbr (Nat.le_refl _)).2 k x hx
        have c2 := (hr2.below hbr (Nat.le_refl _)).2 k x hx
        clear hx
        go_wp2
        go_quiet (fail)
        go_wp2
        exact ⟨⟨k + 1, by omega, by go_num, below_drewN hbr nq⟩, by simp [intOf]; omega⟩
      · go_wp2
        go_ret
        exact ⟨rfl, Below_next HB hbr⟩
set_option maxRecDepth 100000 in
theorem lifted (os : Os) (started : os.Started) (H : Type) (enc : TypeId × Value → H) :
    ReturnsInHanded {} Try.checked os 7 .any (Rows.textLinesSpec.pre6 enc Try.prog Try.f7 Rows.textLinesRow.domain false) (Rows.textLinesSpec.post enc Try.prog Try.f7 false true false false) := by
  refine returnsInHanded_of_change (C := Try.checked) own started (by kernel_rfl) Try.func7
    (ChangeSpec.witness6 (enc := enc) (C := Try.checked) false ⟨#[], #[.string ByteArray.empty], []⟩ 8 (by kernel_rfl) (by kernel_rfl) (by kernel_rfl) (by kernel_rfl)) ?_
  intro W base args ds gs before hval0 hW hcnd _
  have hval : ∀ (j : Nat) t v, Try.f7.params[j]? = some t → args[j]? = some v → Value.okWide Try.prog W .any base t v := hval0
  have hW' := hW
  obtain ⟨p, q, hA0, hV, rfl, hfz, hnd⟩ := hW
  have hA : DataW.TrodAll enc Try.prog W 0 (fun _ => true) true Try.f7.params.toList args.toList ds p := hA0
  rw [Try.params7] at hA hval
  obtain ⟨v0, vs0, d0, ds0, p0, q0, hargs, rfl, rfl, h0, r0⟩ := trodAll_cons hA
  obtain ⟨rfl, rfl, rfl⟩ := trodAll_nil r0
  obtain rfl : args = #[v0] := by cases args; simp_all
  obtain ⟨rfl, rfl⟩ := trodVars_none hV
  obtain ⟨a0, rfl, rfl, rfl, w0⟩ := open_string Try.underlying9 (hval 0 9 v0 rfl rfl) h0
  clear hA0 hval0
  simp only [List.append_nil] at hW'
  refine (walk a0 w0 W).mono fun e W' ⟨he, hg⟩ => ?_
  subst he
  exact ⟨_, rfl, _, _, _, [], [], [], hW', trodAll_mk1 (shut_bool Try.underlying4 _), (trodAll_cons_mk (shut_string Try.underlying9 w0) trodAll_mk0), rfl, hg.frame _, fun h => by cases h⟩

theorem over : Rows.textLinesRow.holds Try.pinned (OpenSpec.ofChange Rows.textLinesSpec) :=
  OpenClaim.holds_of_wide 7 Try.f7 rfl rfl rfl rfl rfl rfl rfl ⟨rfl, rfl, rfl, rfl, rfl⟩ rfl rfl rfl rfl rfl (by kernel_rfl) Try.func7 (by kernel_rfl)
    (of_decide_eq_true (by kernel_rfl)) (by unfold Func.isWrapper; first | (rw [if_pos (by decide +kernel)]; kernel_rfl) | (rw [if_neg (by decide +kernel)]; exact ⟨rfl, rfl⟩))
    (fun os started H enc _ => lifted os started H enc)

theorem proved : Rows.TextLinesSaid :=
  over
end Go.Proofs.Ytbfgekfajbbdaaa.textLines
namespace Go.Proofs.Ytbfgekfajbbdaaa
theorem textLines_holds : Rows.TextLinesSaid := textLines.proved
#print axioms textLines_holds
end Go.Proofs.Ytbfgekfajbbdaaa
