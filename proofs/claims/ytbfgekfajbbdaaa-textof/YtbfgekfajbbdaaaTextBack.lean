/- 'cascadelaw01.TextBack' returns true at every input, and leaves it as it was: a text comes again from its runes; what isn't one has none, and what stands ahead of its first bad byte is a text. No condition. -/
import Derived.Test.YtbfgekfajbbdaaaRows
import Derived.Test.YtbfgekfajbbdaaaPlainE
import Derived.Test.YtbfgekfajbbdaaaFrame
set_option linter.unusedVariables false
set_option linter.unusedSimpArgs false
namespace Go.Proofs.Ytbfgekfajbbdaaa.textBack
open Go.ChangeShapes Go.WideShapes Go.ChangeAt Go.RowKit
open Go.ChangeMaps (open_string shut_string)
theorem runesF_le (s : ByteArray) : ∀ f i, (runesF s f i).length ≤ f
  | 0, _ => by simp [runesF]
  | f + 1, i => by
    have := runesF_le s f (i + (Utf8.decode s i).2)
    rw [runesF]; split <;> simp; omega
theorem runesI_le (s : ByteArray) : (runesI s).length ≤ s.size + 1 := by
  unfold runesI; split
  · exact runesF_le s _ _
  · simp
theorem i32s_eq (l : List Nat) : i32s l = (ints l).map (Value.int .i32) := by simp [i32s, ints]
theorem Below_next {w w1 w2 : World} (h : Below w.heap.size w w1) (k : Below w1.heap.size w1 w2) : Below w.heap.size w w2 := h.trans (k.mono h.size)
theorem runes_go (s : ByteArray) (hs : s.size ≤ 4294967296) (n : Nat) (hn : (runesI s).length = n) (w : World) : Calls Try.prog 14 #[.string s] w fun e w' => ∃ A c, e = .returned (.slice A n c) ∧ Rd w' A n ((ints (runesI s)).map (Value.int .i32)) ∧ Below w.heap.size w w' :=
  (runes_any s hs w).mono fun _ _ ⟨v, he, ho, hb⟩ => by
    rw [i32s_eq, hn] at ho
    obtain ⟨A, c, hv, hr, _⟩ := Rd.own ho
    exact ⟨A, c, by rw [he, hv], hr, hb⟩
set_option maxHeartbeats 1000000 in
set_option maxRecDepth 100000 in
theorem walk (w : World) (a0 : ByteArray) (w0 : a0.size ≤ maxLen) :
    Calls Try.prog 5 #[.string a0] w fun e w' => e = .returned (.bool true) ∧ Below w.heap.size w w' := by
  have hs := w0
  unfold maxLen at hs
  have HB : Below w.heap.size w w := Below.refl _ _
  by_cases hl : 400 < a0.size
  · go_enter Try.func5, Try.ntmps5
    go_wp2_with (go_at_call 9; refine (awake_any _).mono ?_; rintro e w1 ⟨rfl, hb⟩; replace HB := Below_next HB hb; clear hb)
    go_ret
    exact ⟨rfl, HB⟩
  · have hsz : a0.size ≤ 4294967296 := by omega
    cases hr : rightB a0
    · have hn0 : (runesI a0).length = 0 := by unfold runesI; rw [hr]; rfl
      have hr0 : runesI a0 = [] := by unfold runesI; rw [hr]; rfl
      have hri := right_iff a0
      have hge := badF_ge a0 (a0.size + 1) 0
      obtain ⟨b, hb⟩ : ∃ b : Nat, badI a0 = (b : Int) := by
        refine ⟨(badI a0).toNat, ?_⟩
        have : badI a0 ≠ -1 := fun e => by rw [hri, e] at hr; cases hr
        unfold badI at this ⊢; omega
      obtain ⟨hbs, hra⟩ := ahead_right a0 b hb
      have hbm : ∀ w, Calls Try.prog 11 #[.string a0] w fun e w' => e = .returned (.int .i64 b) ∧ Below w.heap.size w w' := fun w => by rw [← hb]; exact bad_any a0 w0 w
      have HBM := Lib.hid hbm
      have HN0 := Lib.hid hn0
      have HR0 := Lib.hid hr0
      have hem : (a0.extract 0 b).size ≤ maxLen := by rw [ByteArray.size_extract]; unfold maxLen; omega
      clear hn0 hr0 hri hge hb hbm
      go_enter Try.func5, Try.ntmps5
      go_wp2_with (go_at_call 9; refine (awake_any _).mono ?_; rintro e w1 ⟨rfl, hb⟩; replace HB := Below_next HB hb; clear hb)
      refine (runes_go a0 hsz 0 HN0.out _).mono ?_
      rintro e w2 ⟨A, c, rfl, hrA, hb⟩
      replace HB := Below_next HB hb
      clear hb
      rw [HR0.out] at hrA
      go_wp2_with fail
      refine (of_yes A 0 c [] _ (by omega) hrA rfl).mono ?_
      rw [show (⟨(ofS []).toArray⟩ : ByteArray) = ⟨#[]⟩ from rfl]
      rintro e w3 ⟨rfl, hb⟩
      replace HB := Below_next HB hb
      clear hb
      go_wp2_with (first | (go_at_call 12; first | (refine (right_any a0 w0 _).mono ?_; rintro e w4 ⟨rfl, hb⟩; replace HB := Below_next HB hb; clear hb) | (refine (right_any (a0.extract 0 b) hem _).mono ?_; rintro e w4 ⟨rfl, hb⟩; replace HB := Below_next HB hb; clear hb)) | (go_at_call 11; refine (HBM.out _).mono ?_; rintro e w4 ⟨rfl, hb⟩; replace HB := Below_next HB hb; clear hb))
      go_ret
      exact ⟨rfl, HB⟩
    · have hbi : badI a0 = -1 := by have := hr; rw [right_iff] at this; simpa using this
      obtain ⟨hall, hof⟩ := right_back a0 hr
      have hbm : ∀ w, Calls Try.prog 11 #[.string a0] w fun e w' => e = .returned (.int .i64 (-1)) ∧ Below w.heap.size w w' := fun w => by rw [← hbi]; exact bad_any a0 w0 w
      have HBM := Lib.hid hbm
      have HALL := Lib.hid hall
      have hof' : (⟨(ofS (ints (runesI a0))).toArray⟩ : ByteArray) = a0 := by rw [hof]
      have HOF := Lib.hid hof'
      obtain ⟨n, hn⟩ : ∃ n, (runesI a0).length = n := ⟨_, rfl⟩
      have hnl : n ≤ 401 := by have := runesI_le a0; omega
      have HN := Lib.hid hn
      clear hbi hall hof hof' hbm hn
      go_enter Try.func5, Try.ntmps5
      go_wp2_with (go_at_call 9; refine (awake_any _).mono ?_; rintro e w1 ⟨rfl, hb⟩; replace HB := Below_next HB hb; clear hb)
      refine (runes_go a0 hsz n HN.out _).mono ?_
      rintro e w2 ⟨A, c, rfl, hrA, hb⟩
      replace HB := Below_next HB hb
      clear hb
      go_wp2_with fail
      refine (of_yes A n c _ _ (by omega) hrA HALL.out).mono ?_
      rw [HOF.out]
      rintro e w3 ⟨rfl, hb⟩
      replace HB := Below_next HB hb
      clear hb
      go_wp2_with (first | (go_at_call 12; refine (right_any a0 w0 _).mono ?_; rintro e w4 ⟨rfl, hb⟩; replace HB := Below_next HB hb; clear hb) | (go_at_call 11; refine (HBM.out _).mono ?_; rintro e w4 ⟨rfl, hb⟩; replace HB := Below_next HB hb; clear hb))
      go_ret
      exact ⟨rfl, HB⟩
theorem own : ownKnob Try.prog.godebug = none := by kernel_rfl
theorem laidOut : laidOutB Try.prog = true := by kernel_rfl
set_option maxRecDepth 100000 in
theorem lifted (os : Os) (started : os.Started) (H : Type) (enc : TypeId × Value → H) :
    ReturnsInHanded {} Try.checked os 5 .any (Rows.textBackSpec.pre6 enc Try.prog Try.f5 Rows.textBackRow.domain false) (Rows.textBackSpec.post enc Try.prog Try.f5 false true false false) := by
  refine returnsInHanded_of_change (C := Try.checked) own started (by kernel_rfl) Try.func5
    (ChangeSpec.witness6 (enc := enc) (C := Try.checked) false ⟨#[], #[.string ByteArray.empty], []⟩ 8 (by kernel_rfl) (by kernel_rfl) (by kernel_rfl) (by kernel_rfl)) ?_
  intro W base args ds gs before hval0 hW hcnd _
  have hval : ∀ (j : Nat) t v, Try.f5.params[j]? = some t → args[j]? = some v → Value.okWide Try.prog W .any base t v := hval0
  have hW' := hW
  obtain ⟨p, q, hA0, hV, rfl, hfz, hnd⟩ := hW
  have hA : DataW.TrodAll enc Try.prog W 0 (fun _ => true) true Try.f5.params.toList args.toList ds p := hA0
  rw [Try.params5] at hA hval
  obtain ⟨v0, vs0, d0, ds0, p0, q0, hargs, rfl, rfl, h0, r0⟩ := trodAll_cons hA
  obtain ⟨rfl, rfl, rfl⟩ := trodAll_nil r0
  obtain rfl : args = #[v0] := by cases args; simp_all
  obtain ⟨rfl, rfl⟩ := trodVars_none hV
  have k0 := h0
  have lt0 : ∀ x ∈ p0, x.block < W.heap.size := by obtain ⟨m, hm⟩ := k0; exact DataW.trod_lt m _ _ _ hm
  obtain ⟨a0, rfl, hd0, hp0, w0⟩ := open_string Try.underlying9 (hval 0 9 v0 rfl rfl) h0
  clear hA0 hval0
  refine (walk W a0 w0).mono fun e W' ⟨he, bel⟩ => ?_
  subst he
  exact ⟨_, rfl, _, _, _, [], _, [], hW', trodAll_mk1 (shut_bool Try.underlying4 _), (trodAll_cons_mk (Below.trod laidOut (by kernel_rfl) (of_decide_eq_true (by kernel_rfl)) k0 bel lt0) trodAll_mk0), rfl, bel.frame _, fun h => by cases h⟩
theorem over : Rows.textBackRow.holds Try.pinned (OpenSpec.ofChange Rows.textBackSpec) :=
  OpenClaim.holds_of_wide 5 Try.f5 rfl rfl rfl rfl rfl rfl rfl ⟨rfl, rfl, rfl, rfl, rfl⟩ rfl rfl rfl rfl rfl (by kernel_rfl) Try.func5 (by kernel_rfl)
    (of_decide_eq_true (by kernel_rfl)) (by unfold Func.isWrapper; first | (rw [if_pos (by decide +kernel)]; kernel_rfl) | (rw [if_neg (by decide +kernel)]; exact ⟨rfl, rfl⟩))
    (fun os started H enc _ => lifted os started H enc)
theorem proved : Rows.TextBackSaid := over
end Go.Proofs.Ytbfgekfajbbdaaa.textBack
namespace Go.Proofs.Ytbfgekfajbbdaaa
theorem textBack_holds : Rows.TextBackSaid := textBack.proved
#print axioms textBack_holds
end Go.Proofs.Ytbfgekfajbbdaaa
