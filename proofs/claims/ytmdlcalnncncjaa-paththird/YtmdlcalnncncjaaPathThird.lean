/- 'cascadelaw06.PathThird' returns true at every input, and leaves it as it was: path.Less goes on over a third path, what is under a path stands behind it, and Key and Place tell their steps. No condition. -/
import Derived.Test.YtmdlcalnncncjaaRows
import Derived.Test.YtmdlcalnncncjaaPRefV
import Derived.Test.YtmdlcalnncncjaaPOpen
import Derived.Test.YtmdlcalnncncjaaPQuiet
import Derived.ProofKit
import Derived.Deep.CutRange
import Derived.OpenShut
import Derived.ShutString
import Derived.ChangeOld
set_option linter.unusedVariables false
set_option linter.unusedSimpArgs false
namespace Go.Proofs.Ytmdlcalnncncjaa.pathThird
open Go.ChangeShapes Go.WideShapes Go.ChangeAt Go.RowKit
open Go.ChangeMaps (open_string shut_string)
theorem Below_next {w w1 w2 : World} (h : Below w.heap.size w w1) (k : Below w1.heap.size w1 w2) : Below w.heap.size w w2 := h.trans (k.mono h.size)
def ends (W : World) (e : Ending) (w' : World) : Prop := e = .returned (.bool true) ∧ Below W.heap.size W w'
theorem under_less {p q : List St} (hu : meet p q = p.length) (hs : ¬ (p.length = q.length ∧ meet p q = p.length)) : lessL p q = true ∧ ¬ meet q p = q.length := by
  have := meet_le p q
  have hl : p.length < q.length := by omega
  refine ⟨by rw [lessL_end (.inl hu)]; simpa using hl, fun h => ?_⟩
  rw [meet_comm] at h
  omega
set_option maxHeartbeats 2000000 in
set_option maxRecDepth 100000 in
theorem walk (W : World) (A : Option Addr) (n c : Nat) (p : List St) (hp : IsPath W A n c p) (A2 : Option Addr) (n2 c2 : Nat) (q : List St) (hq : IsPath W A2 n2 c2 q) (A3 : Option Addr) (n3 c3 : Nat) (r : List St) (hr : IsPath W A3 n3 c3 r) :
    Calls Try.prog 16 #[.slice A n c, .slice A2 n2 c2, .slice A3 n3 c3] W fun e w' => e = .returned (.bool true) ∧ Below W.heap.size W w' := by
  show Calls Try.prog 16 #[.slice A n c, .slice A2 n2 c2, .slice A3 n3 c3] W (ends W)
  obtain ⟨rfl, hpc, hpm, hpA⟩ := hp
  obtain ⟨rfl, hqc, hqm, hqA⟩ := hq
  obtain ⟨rfl, hrc, hrm, hrA⟩ := hr
  have HP := Lib.hid hpA
  have HQ := Lib.hid hqA
  have HRr := Lib.hid hrA
  have K0 := Lib.hid (awake6 W)
  clear hpA hqA hrA
  go_enter Try.func16, Try.ntmps16
  go_wp2_with fail
  refine K0.out.mono ?_
  rintro e w1 ⟨rfl, hb1⟩
  have HB1 := Lib.hid hb1
  clear hb1 K0
  go_wp2_with fail
  refine (fewS_any p A p.length c w1 rfl (HP.out.below HB1.out (Nat.le_refl _)) hpm).mono ?_
  rintro e w2 ⟨f1, rfl, hf1, hb2⟩
  have HF1 := Lib.hid hf1
  have HB2 := Lib.hid (Below_next HB1.out hb2)
  clear hf1 hb2 HB1
  cases f1
  · go_wp2_with fail
    refine (awake6 w2).mono ?_
    rintro e w3 ⟨rfl, hb3⟩
    go_wp2_with fail
    go_ret
    exact ⟨rfl, Below_next HB2.out hb3⟩
  have FP := Lib.hid (HF1.out rfl)
  clear HF1
  go_wp2_with fail
  refine (fewS_any q A2 q.length c2 w2 rfl (HQ.out.below HB2.out (Nat.le_refl _)) hqm).mono ?_
  rintro e w3 ⟨f1, rfl, hf1, hb3⟩
  have HF1 := Lib.hid hf1
  have HB3 := Lib.hid (Below_next HB2.out hb3)
  clear hf1 hb3 HB2
  cases f1
  · go_wp2_with fail
    refine (awake6 w3).mono ?_
    rintro e w4 ⟨rfl, hb4⟩
    go_wp2_with fail
    go_ret
    exact ⟨rfl, Below_next HB3.out hb4⟩
  have FQ := Lib.hid (HF1.out rfl)
  clear HF1
  go_wp2_with fail
  refine (fewS_any r A3 r.length c3 w3 rfl (HRr.out.below HB3.out (Nat.le_refl _)) hrm).mono ?_
  rintro e w4 ⟨f1, rfl, hf1, hb4⟩
  have HF1 := Lib.hid hf1
  have HB4 := Lib.hid (Below_next HB3.out hb4)
  clear hf1 hb4 HB3
  cases f1
  · go_wp2_with fail
    refine (awake6 w4).mono ?_
    rintro e w5 ⟨rfl, hb5⟩
    go_wp2_with fail
    go_ret
    exact ⟨rfl, Below_next HB4.out hb5⟩
  have FR := Lib.hid (HF1.out rfl)
  clear HF1
  have hp4 := FP.out.1
  have hq4 := FQ.out.1
  have hr4 := FR.out.1
  have HTR := Lib.hid (fun (h1 : lessL p q = true) (h2 : lessL q r = true) => lessL_trans h1 h2)
  have HUL := Lib.hid (fun (hu : meet p q = p.length) hs => under_less (q := q) hu hs)
  go_upto_region 3 with fail
  go_cut [39] from 26 (fun v wc => v = .bool false ∧ Below W.heap.size W wc)
  case first =>
    go_wp2_with fail
    refine (less_any p q A A2 c c2 w4 (HP.out.below HB4.out (Nat.le_refl _)) (HQ.out.below HB4.out (Nat.le_refl _)) (by omega) (by omega)).mono ?_
    rintro e w5 ⟨rfl, hb5⟩
    have HB5 := Lib.hid (Below_next HB4.out hb5)
    clear hb5 HB4
    cases h1 : lessL p q
    · clear h1
      go_wp2_with fail
      go_meet
      exact ⟨rfl, HB5.out⟩
    have H1 := Lib.hid h1
    clear h1
    go_wp2_with fail
    refine (less_any q r A2 A3 c2 c3 w5 (HQ.out.below HB5.out (Nat.le_refl _)) (HRr.out.below HB5.out (Nat.le_refl _)) (by omega) (by omega)).mono ?_
    rintro e w6 ⟨rfl, hb6⟩
    have HB6 := Lib.hid (Below_next HB5.out hb6)
    clear hb6 HB5
    cases h2 : lessL q r
    · clear h2
      go_wp2_with fail
      go_meet
      exact ⟨rfl, HB6.out⟩
    have H3 := Lib.hid (HTR.out H1.out h2)
    clear h2
    go_wp2_with fail
    refine (less_any p r A A3 c c3 w6 (HP.out.below HB6.out (Nat.le_refl _)) (HRr.out.below HB6.out (Nat.le_refl _)) (by omega) (by omega)).mono ?_
    rintro e w7 ⟨rfl, hb7⟩
    have HB7 := Lib.hid (Below_next HB6.out hb7)
    rw [H3.out]
    clear hb7 HB6
    go_wp2_with fail
    go_meet
    exact ⟨rfl, HB7.out⟩
  case rest =>
    obtain ⟨rfl, hbc⟩ := hcut
    have HBC := Lib.hid hbc
    clear hbc HB4
    go_wp2_with fail
    go_loopw [7] (fun iv wr => ∃ i : Nat, iv = .int .i64 i ∧ i ≤ p.length ∧ Below W.heap.size W wr) (fun iv _ => p.length - (intOf iv).toNat)
    case atStart => exact ⟨0, rfl, Nat.zero_le _, HBC.out⟩
    case round =>
      obtain ⟨i, rfl, hi, hbr⟩ := hrel
      have HBR := Lib.hid hbr
      clear hbr HBC
      by_cases hlt : i < p.length
      · obtain ⟨s, hs⟩ : ∃ s, p[i]? = some s := ⟨p[i], List.getElem?_eq_getElem hlt⟩
        obtain ⟨ad, e, hbl, hcell, hok⟩ := (HP.out.below HBR.out (Nat.le_refl _)) i s hs
        subst e
        obtain ⟨q0, q1, q2⟩ := hcell
        have HK := Lib.hid (FP.out.2 s (List.mem_of_getElem? hs))
        have Q0 : ∀ x : BlwBy wr, x.now.cell? (ad.add (i * 3)) = some (.string s.k) := fun x => x.cellA hbl q0
        have Q1 : ∀ x : BlwBy wr, x.now.cell? ⟨(ad.add (i * 3)).block, (ad.add (i * 3)).off + 1, none⟩ = some (.int .i64 s.a) := fun x => x.cellA (a := ⟨(ad.add (i * 3)).block, (ad.add (i * 3)).off + 1, none⟩) hbl q1
        have KK : Hid (∀ x : BlwBy wr, Calls Try.prog 59 #[.string s.k] x.now fun e w'' => e = .returned (.agg #[.string s.k, .int .i64 0, .bool false]) ∧ ∃ q : BlwBy wr, w'' = q.now) := Lib.hid (fun x => Calls.below_of (step_key s.k (by have := HK.out; omega) x.now))
        have KP : Hid (∀ x : BlwBy wr, Calls Try.prog 60 #[.int .i64 s.a] x.now fun e w'' => e = .returned (.agg #[.string ⟨#[]⟩, .int .i64 s.a, .bool true]) ∧ ∃ q : BlwBy wr, w'' = q.now) := Lib.hid (fun x => Calls.below_of (step_place s.a x.now))
        clear hs hok q0 q1 q2
        go_wp2_with fail
        refine wp_quiet_below (by kernel_rfl) (by kernel_rfl) ?_
        repeat (quiet_step (first | (go_at_call 59; exact KK.out _) | (go_at_call 60; exact KP.out _)))
        refine wpQuiet_nil ?_
        intro _ hw'
        obtain ⟨⟨w9, hb9⟩, hw''⟩ := hw'
        subst hw''
        have HB9 := Lib.hid (Below_next HBR.out hb9)
        clear hb9
        go_wp2_with fail
        exact ⟨⟨i + 1, by go_num, by omega, HB9.out⟩, by simp [intOf]; omega⟩
      · go_wp2_with fail
        refine (under_any p q A A2 c c2 wr (HP.out.below HBR.out (Nat.le_refl _)) (HQ.out.below HBR.out (Nat.le_refl _)) (by omega) (by omega)).mono ?_
        rintro e w5 ⟨rfl, hb5⟩
        have HB5 := Lib.hid (Below_next HBR.out hb5)
        clear hb5 HBR
        by_cases hu : meet p q = p.length
        case neg =>
          rw [decide_eq_false hu]
          clear hu
          go_wp2_with fail
          go_ret
          exact ⟨rfl, HB5.out⟩
        rw [decide_eq_true hu]
        have HU := Lib.hid hu
        clear hu
        go_wp2_with fail
        refine (same_path p q A A2 c c2 w5 (HP.out.below HB5.out (Nat.le_refl _)) (HQ.out.below HB5.out (Nat.le_refl _)) (by omega) (by omega)).mono ?_
        rintro e w6 ⟨rfl, hb6⟩
        have HB6 := Lib.hid (Below_next HB5.out hb6)
        clear hb6 HB5
        by_cases hs : p.length = q.length ∧ meet p q = p.length
        · rw [decide_eq_true hs]
          clear hs
          go_wp2_with fail
          go_ret
          exact ⟨rfl, HB6.out⟩
        rw [decide_eq_false hs]
        obtain ⟨hl1, hl2⟩ := HUL.out HU.out hs
        have HL1 := Lib.hid hl1
        have HL2 := Lib.hid hl2
        clear hs hl1 hl2
        go_wp2_with fail
        refine (less_any p q A A2 c c2 w6 (HP.out.below HB6.out (Nat.le_refl _)) (HQ.out.below HB6.out (Nat.le_refl _)) (by omega) (by omega)).mono ?_
        rintro e w7 ⟨rfl, hb7⟩
        have HB7 := Lib.hid (Below_next HB6.out hb7)
        rw [HL1.out]
        clear hb7 HB6
        go_wp2_with fail
        refine (under_any q p A2 A c2 c w7 (HQ.out.below HB7.out (Nat.le_refl _)) (HP.out.below HB7.out (Nat.le_refl _)) (by omega) (by omega)).mono ?_
        rintro e w8 ⟨rfl, hb8⟩
        have HB8 := Lib.hid (Below_next HB7.out hb8)
        rw [decide_eq_false HL2.out]
        clear hb8 HB7
        go_wp2_with fail
        go_ret
        exact ⟨rfl, HB8.out⟩
theorem own : ownKnob Try.prog.godebug = none := by kernel_rfl
theorem laidOut : laidOutB Try.prog = true := by kernel_rfl
set_option maxRecDepth 100000 in
theorem lifted (os : Os) (started : os.Started) (H : Type) (enc : TypeId × Value → H) :
    ReturnsInHanded {} Try.checked os 16 .any (Rows.pathThirdSpec.pre6 enc Try.prog Try.f16 Rows.pathThirdRow.domain false) (Rows.pathThirdSpec.post enc Try.prog Try.f16 false true false false) := by
  refine returnsInHanded_of_change (C := Try.checked) own started (by kernel_rfl) Try.func16
    (ChangeSpec.witness6 (enc := enc) (C := Try.checked) false ⟨#[], #[.slice none 0 0, .slice none 0 0, .slice none 0 0], []⟩ 8 (by kernel_rfl) (by kernel_rfl) (by kernel_rfl) (by kernel_rfl)) ?_
  intro W base args ds gs before hval0 hW hcnd _
  have hval : ∀ (j : Nat) t v, Try.f16.params[j]? = some t → args[j]? = some v → Value.okWide Try.prog W .any base t v := hval0
  have hW' := hW
  obtain ⟨p, q, hA0, hV, rfl, hfz, hnd⟩ := hW
  have hA : DataW.TrodAll enc Try.prog W 0 (fun _ => true) true Try.f16.params.toList args.toList ds p := hA0
  rw [Try.params16] at hA hval
  obtain ⟨v0, vs0, d0, ds0, p0, q0, hargs, rfl, rfl, h0, r0⟩ := trodAll_cons hA
  obtain ⟨v1, vs1, d1, ds1, p1, q1, rfl, rfl, rfl, h1, r1⟩ := trodAll_cons r0
  obtain ⟨v2, vs2, d2, ds2, p2, q2, rfl, rfl, rfl, h2, r2⟩ := trodAll_cons r1
  obtain ⟨rfl, rfl, rfl⟩ := trodAll_nil r2
  obtain rfl : args = #[v0, v1, v2] := by cases args; simp_all
  obtain ⟨rfl, rfl⟩ := trodVars_none hV
  have k0 := h0
  have lt0 : ∀ x ∈ p0, x.block < W.heap.size := by obtain ⟨m, hm⟩ := k0; exact DataW.trod_lt m _ _ _ hm
  obtain ⟨a0, n0, c0, z0, rfl, w0⟩ := open_path (hval 0 50 v0 rfl rfl) h0
  have k1 := h1
  have lt1 : ∀ x ∈ p1, x.block < W.heap.size := by obtain ⟨m, hm⟩ := k1; exact DataW.trod_lt m _ _ _ hm
  obtain ⟨a1, n1, c1, z1, rfl, w1⟩ := open_path (hval 1 50 v1 rfl rfl) h1
  have k2 := h2
  have lt2 : ∀ x ∈ p2, x.block < W.heap.size := by obtain ⟨m, hm⟩ := k2; exact DataW.trod_lt m _ _ _ hm
  obtain ⟨a2, n2, c2, z2, rfl, w2⟩ := open_path (hval 2 50 v2 rfl rfl) h2
  clear hA0 hval0
  refine (walk W a0 n0 c0 z0 w0 a1 n1 c1 z1 w1 a2 n2 c2 z2 w2).mono fun e W' ⟨he, bel⟩ => ?_
  subst he
  exact ⟨_, rfl, _, _, _, [], _, [], hW', trodAll_mk1 (shut_bool Try.underlying4 _), (trodAll_cons_mk (Below.trod laidOut (by kernel_rfl) (of_decide_eq_true (by kernel_rfl)) k0 bel lt0) (trodAll_cons_mk (Below.trod laidOut (by kernel_rfl) (of_decide_eq_true (by kernel_rfl)) k1 bel lt1) (trodAll_cons_mk (Below.trod laidOut (by kernel_rfl) (of_decide_eq_true (by kernel_rfl)) k2 bel lt2) trodAll_mk0))), rfl, bel.frame _, fun h => by cases h⟩
theorem over : Rows.pathThirdRow.holds Try.pinned (OpenSpec.ofChange Rows.pathThirdSpec) :=
  OpenClaim.holds_of_wide 16 Try.f16 rfl rfl rfl rfl rfl rfl rfl ⟨rfl, rfl, rfl, rfl, rfl⟩ rfl rfl rfl rfl rfl (by kernel_rfl) Try.func16 (by kernel_rfl)
    (of_decide_eq_true (by kernel_rfl)) (by unfold Func.isWrapper; first | (rw [if_pos (by decide +kernel)]; kernel_rfl) | (rw [if_neg (by decide +kernel)]; exact ⟨rfl, rfl⟩))
    (fun os started H enc _ => lifted os started H enc)
theorem proved : Rows.PathThirdSaid := over
end Go.Proofs.Ytmdlcalnncncjaa.pathThird
namespace Go.Proofs.Ytmdlcalnncncjaa
theorem pathThird_holds : Rows.PathThirdSaid := pathThird.proved
#print axioms pathThird_holds
end Go.Proofs.Ytmdlcalnncncjaa
