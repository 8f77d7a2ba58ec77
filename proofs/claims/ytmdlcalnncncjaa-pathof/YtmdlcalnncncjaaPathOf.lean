/- 'cascadelaw06.PathOf' returns true at every input, and leaves it as it was: path.Of tells of all values the path whose value they are, or that they are none's, as the document's own answer does. No condition. -/
import Derived.Test.YtmdlcalnncncjaaRows
import Derived.Test.YtmdlcalnncncjaaPOfR
import Derived.Test.YtmdlcalnncncjaaPOpen
import Derived.ProofKit
import Derived.OpenShut
import Derived.ShutString
import Derived.ChangeOld
set_option linter.unusedVariables false
set_option linter.unusedSimpArgs false
namespace Go.Proofs.Ytmdlcalnncncjaa.pathOf
open Go.ChangeShapes Go.WideShapes Go.ChangeAt Go.RowKit
open Go.ChangeMaps (open_string shut_string)
theorem bel2 {w w1 w2 : World} (h : Below w.heap.size w w1) (k : Below w1.heap.size w1 w2) : Below w.heap.size w w2 := h.trans (k.mono h.size)
def ends (W : World) (e : Ending) (w' : World) : Prop := e = .returned (.bool true) ∧ Below W.heap.size W w'
theorem ofV_le {a : Va} {p : List St} (h : ofV a = some p) : p.length ≤ 30 := by
  obtain ⟨k, n, s, l, ks, f⟩ := a
  simp only [ofV] at h
  split at h
  · cases ho : ofL l with
    | none => rw [ho] at h; cases h
    | some q =>
      rw [ho] at h
      by_cases hq : PathR q
      · rw [ofM_yes hq] at h; cases h; exact hq.1
      · rw [ofM_no hq] at h; cases h
  · cases h
set_option maxHeartbeats 2000000 in
set_option maxRecDepth 100000 in
theorem walk (W : World) (a : Va) (h : Hd) (H : Lies W (fun _ => True) a h) : Calls Try.prog 10 #[h.val] W fun e w' => e = .returned (.bool true) ∧ Below W.heap.size W w' := by
  show Calls Try.prog 10 #[h.val] W (ends W)
  have HH := Lib.hid H
  clear H
  have hw0 := awake6 (W.alloc (Obj.cells #[.int .i64 h.k, .int .i64 h.n, .string h.s, .slice h.A h.la h.lc, .slice h.F h.lf h.fc] 25))
  have HW0 := Lib.hid hw0
  clear hw0
  unfold Hd.val at *
  go_enter Try.func10, Try.ntmps10
  go_wp2_with fail
  refine HW0.out.mono ?_
  rintro e w1 ⟨rfl, hb1⟩
  have hbx1 := (BoxAt.start W h 25).go hb1 (Nat.le_refl _)
  have HX1 := Lib.hid hbx1
  have q0 := hbx1.2.2 0 _ rfl
  have q1 := hbx1.2.2 1 _ rfl
  have q2 := hbx1.2.2 2 _ rfl
  have q3 := hbx1.2.2 3 _ rfl
  have q4 := hbx1.2.2 4 _ rfl
  clear hb1 hbx1 HW0
  go_wp2_with fail
  refine (few_ref a _ h w1 (HH.out.below HX1.out.1 (Nat.le_refl _))).mono ?_
  rintro e w2 ⟨r, rfl, hr, hb2⟩
  have hbx2 := HX1.out.go hb2 (Nat.le_refl _)
  have HX2 := Lib.hid hbx2
  clear q0 q1 q2 q3 q4 hb2 HX1
  have HR := Lib.hid hr
  clear hr
  cases r
  · clear hbx2
    go_wp2_with fail
    refine (awake6 w2).mono ?_
    rintro e w3 ⟨rfl, hb3⟩
    go_wp2_with fail
    go_ret
    exact ⟨rfl, bel2 HX2.out.1 hb3⟩
  obtain ⟨hsh, hcn⟩ := HR.out rfl
  have HSH := Lib.hid hsh
  clear hsh HR
  have q0 := hbx2.2.2 0 _ rfl
  have q1 := hbx2.2.2 1 _ rfl
  have q2 := hbx2.2.2 2 _ rfl
  have q3 := hbx2.2.2 3 _ rfl
  have q4 := hbx2.2.2 4 _ rfl
  clear hbx2
  go_wp2_with fail
  refine (of_prog a _ h w2 (HH.out.below HX2.out.1 (Nat.le_refl _)) HSH.out (by omega)).mono ?_
  rintro e w3 ⟨A3, n3, c3, p3, er, rfl, hn3, hc3, hP3, hb3, hof3⟩
  have hbx3 := HX2.out.go hb3 (Nat.le_refl _)
  have HX3 := Lib.hid hbx3
  have HP3 := Lib.hid hP3
  have HO3 := Lib.hid hof3
  subst hn3
  clear hb3 hP3 hof3 HX2 q0 q1 q2 q3 q4
  have q0 := hbx3.2.2 0 _ rfl
  have q1 := hbx3.2.2 1 _ rfl
  have q2 := hbx3.2.2 2 _ rfl
  have q3 := hbx3.2.2 3 _ rfl
  have q4 := hbx3.2.2 4 _ rfl
  clear hbx3
  go_wp2_with fail
  refine (of_ref a _ h w3 (HH.out.below HX3.out.1 (Nat.le_refl _)) HSH.out (by omega)).mono ?_
  rintro e w4 ⟨A4, n4, c4, p4, ok, rfl, hn4, hc4, hP4, hb4, hof4⟩
  subst hn4
  have HX4 := Lib.hid (HX3.out.go hb4 (Nat.le_refl _))
  have HP34 := Lib.hid (HP3.out.below hb4 (Nat.le_refl _))
  have HP4 := Lib.hid hP4
  have HE : Hid ((er = 0 ∧ ok = true ∧ p3 = p4 ∧ p3.length ≤ 30) ∨ (er = 1 ∧ ok = false ∧ p3 = p4 ∧ p3.length ≤ 30)) := Lib.hid (by
    rcases HO3.out with ⟨h1, h2⟩ | ⟨h1, h2, h3⟩
    · rcases hof4 with ⟨k1, k2⟩ | ⟨k1, k2, k3⟩
      · rw [h2] at k2; cases k2; exact .inl ⟨h1, k1, rfl, ofV_le h2⟩
      · rw [h2] at k3; cases k3
    · rcases hof4 with ⟨k1, k2⟩ | ⟨k1, k2, k3⟩
      · rw [h3] at k2; cases k2
      · exact .inr ⟨h1, k1, by rw [h2, k2], by rw [h2]; decide⟩)
  clear hb4 hP4 hof4 HO3 q0 q1 q2 q3 q4 HX3 HP3
  rcases HE.out with ⟨rfl, rfl, rfl, hl⟩ | ⟨rfl, rfl, rfl, hl⟩
  · have KS := Lib.hid (path_same_ref p3 p3 A3 A4 p3.length p3.length c3 c4 w4 rfl rfl HP34.out HP4.out (by omega) (by unfold maxLen; omega))
    clear HE
    go_wp2_with fail
    refine KS.out.mono ?_
    rintro e w5 ⟨r, rfl, hr, hb5⟩
    obtain rfl : r = true := by cases r; exact hr.2 (by trivial); rfl
    clear hr
    go_wp2_with fail
    go_ret
    exact ⟨rfl, bel2 HX4.out.1 hb5⟩
  · have KS := Lib.hid (path_same_ref p3 p3 A3 A4 p3.length p3.length c3 c4 w4 rfl rfl HP34.out HP4.out (by omega) (by unfold maxLen; omega))
    clear HE
    go_wp2_with fail
    refine KS.out.mono ?_
    rintro e w5 ⟨r, rfl, hr, hb5⟩
    obtain rfl : r = true := by cases r; exact hr.2 (by trivial); rfl
    clear hr
    go_wp2_with fail
    go_ret
    exact ⟨rfl, bel2 HX4.out.1 hb5⟩
theorem own : ownKnob Try.prog.godebug = none := by kernel_rfl
theorem laidOut : laidOutB Try.prog = true := by kernel_rfl
set_option maxRecDepth 100000 in
theorem lifted (os : Os) (started : os.Started) (H : Type) (enc : TypeId × Value → H) :
    ReturnsInHanded {} Try.checked os 10 .any (Rows.pathOfSpec.pre6 enc Try.prog Try.f10 Rows.pathOfRow.domain false) (Rows.pathOfSpec.post enc Try.prog Try.f10 false true false false) := by
  refine returnsInHanded_of_change (C := Try.checked) own started (by kernel_rfl) Try.func10
    (ChangeSpec.witness6 (enc := enc) (C := Try.checked) false ⟨#[], #[.agg #[.int .i64 0, .int .i64 0, .string ByteArray.empty, .slice none 0 0, .slice none 0 0]], []⟩ 8 (by kernel_rfl) (by kernel_rfl) (by kernel_rfl) (by kernel_rfl)) ?_
  intro W base args ds gs before hval0 hW hcnd _
  have hval : ∀ (j : Nat) t v, Try.f10.params[j]? = some t → args[j]? = some v → Value.okWide Try.prog W .any base t v := hval0
  have hW' := hW
  obtain ⟨p, q, hA0, hV, rfl, hfz, hnd⟩ := hW
  have hA : DataW.TrodAll enc Try.prog W 0 (fun _ => true) true Try.f10.params.toList args.toList ds p := hA0
  rw [Try.params10] at hA hval
  obtain ⟨v0, vs0, d0, ds0, p0, q0, hargs, rfl, rfl, h0, r0⟩ := trodAll_cons hA
  obtain ⟨rfl, rfl, rfl⟩ := trodAll_nil r0
  obtain rfl : args = #[v0] := by cases args; simp_all
  obtain ⟨rfl, rfl⟩ := trodVars_none hV
  have k0 := h0
  have lt0 : ∀ x ∈ p0, x.block < W.heap.size := by obtain ⟨m, hm⟩ := k0; exact DataW.trod_lt m _ _ _ hm
  obtain ⟨a0, g0, rfl, w0⟩ := open_value (hval 0 25 v0 rfl rfl) h0
  clear hA0 hval0
  refine (walk W a0 g0 w0).mono fun e W' ⟨he, bel⟩ => ?_
  subst he
  exact ⟨_, rfl, _, _, _, [], _, [], hW', trodAll_mk1 (shut_bool Try.underlying4 _), (trodAll_cons_mk (Below.trod laidOut (by kernel_rfl) (of_decide_eq_true (by kernel_rfl)) k0 bel lt0) trodAll_mk0), rfl, bel.frame _, fun h => by cases h⟩
theorem over : Rows.pathOfRow.holds Try.pinned (OpenSpec.ofChange Rows.pathOfSpec) :=
  OpenClaim.holds_of_wide 10 Try.f10 rfl rfl rfl rfl rfl rfl rfl ⟨rfl, rfl, rfl, rfl, rfl⟩ rfl rfl rfl rfl rfl (by kernel_rfl) Try.func10 (by kernel_rfl)
    (of_decide_eq_true (by kernel_rfl)) (by unfold Func.isWrapper; first | (rw [if_pos (by decide +kernel)]; kernel_rfl) | (rw [if_neg (by decide +kernel)]; exact ⟨rfl, rfl⟩))
    (fun os started H enc _ => lifted os started H enc)
theorem proved : Rows.PathOfSaid := over
end Go.Proofs.Ytmdlcalnncncjaa.pathOf
namespace Go.Proofs.Ytmdlcalnncncjaa
theorem pathOf_holds : Rows.PathOfSaid := pathOf.proved
#print axioms pathOf_holds
end Go.Proofs.Ytmdlcalnncncjaa
