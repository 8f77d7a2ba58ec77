/- 'cascadelaw03.TreeSame' returns true at every input, and leaves it as it was: tree.Same and tree.Alike tell of all two values what the document's own answers tell. No condition. -/
import Derived.Test.YtlhmdbloddpfbaaRows
import Derived.Test.YtlhmdbloddpfbaaTAlkQ
import Derived.Test.YtlhmdbloddpfbaaTSrtW
import Derived.Test.YtlhmdbloddpfbaaTOpen
import Derived.ProofKit
import Derived.Deep.RegionWith
import Derived.OpenShut
import Derived.ShutString
import Derived.ChangeOld
set_option linter.unusedVariables false
set_option linter.unusedSimpArgs false
namespace Go.Proofs.Ytlhmdbloddpfbaa.treeSame
open Go.ChangeShapes Go.WideShapes Go.ChangeAt Go.RowKit
open Go.ChangeMaps (open_string shut_string)
def ends (W : World) (e : Ending) (w' : World) : Prop := e = .returned (.bool true) ∧ Below W.heap.size W w'
/-- Two values and their boxes. -/
structure VV (w : World) (N : Nat) (a : Va) (h : Hd) (M : Nat) (b : Va) (h' : Hd) : Prop where
  ba : Bx w N h
  bb : Bx w M h'
  la : Lies w (fun _ => True) a h
  lb : Lies w (fun _ => True) b h'
theorem VV.go {w w' : World} {N M : Nat} {a b : Va} {h h' : Hd} (H : VV w N a h M b h') (hb : Below w.heap.size w w') : VV w' N a h M b h' := ⟨H.ba.go hb H.ba.1, H.bb.go hb H.bb.1, H.la.below hb (Nat.le_refl _), H.lb.below hb (Nat.le_refl _)⟩
theorem VV.s {w : World} {N M : Nat} {a b : Va} {h h' : Hd} (H : VV w N a h M b h') : S10 N h M h' w := S10.of H.ba H.bb
set_option maxHeartbeats 4000000 in
set_option maxRecDepth 100000 in
theorem walk (W : World) (a : Va) (h : Hd) (H : Lies W (fun _ => True) a h) (b : Va) (h' : Hd) (H' : Lies W (fun _ => True) b h') : Calls Try.prog 4 #[h.val, h'.val] W fun e w' => e = .returned (.bool true) ∧ Below W.heap.size W w' := by
  show Calls Try.prog 4 #[h.val, h'.val] W (ends W)
  have HV0 : Hid (VV ((W.alloc (Obj.cells #[.int .i64 h.k, .int .i64 h.n, .string h.s, .slice h.A h.la h.lc, .slice h.F h.lf h.fc] 25)).alloc (Obj.cells #[.int .i64 h'.k, .int .i64 h'.n, .string h'.s, .slice h'.A h'.la h'.lc, .slice h'.F h'.lf h'.fc] 25)) W.heap.size a h (W.heap.size + 1) b h') := Lib.hid ⟨(Bx.start W h 25).alloc _, Bx.start' _ h' 25 (by simp), H.below (twoA W _ _) (Nat.le_refl _), H'.below (twoA W _ _) (Nat.le_refl _)⟩
  have HB0 := Lib.hid (twoA W (Obj.cells #[.int .i64 h.k, .int .i64 h.n, .string h.s, .slice h.A h.la h.lc, .slice h.F h.lf h.fc] 25) (Obj.cells #[.int .i64 h'.k, .int .i64 h'.n, .string h'.s, .slice h'.A h'.la h'.lc, .slice h'.F h'.lf h'.fc] 25))
  clear H H'
  have HW0 := Lib.hid (awake_any ((W.alloc (Obj.cells #[.int .i64 h.k, .int .i64 h.n, .string h.s, .slice h.A h.la h.lc, .slice h.F h.lf h.fc] 25)).alloc (Obj.cells #[.int .i64 h'.k, .int .i64 h'.n, .string h'.s, .slice h'.A h'.la h'.lc, .slice h'.F h'.lf h'.fc] 25)))
  unfold Hd.val at *
  go_enter Try.func4, Try.ntmps4
  go_wp2_with fail
  refine HW0.out.mono ?_
  rintro e w1 ⟨rfl, hb1⟩
  have HV1 := Lib.hid (HV0.out.go hb1)
  have HB1 := Lib.hid (bel2 HB0.out hb1)
  clear hb1 HV0 HW0 HB0
  have q0 := HV1.out.ba.2 0 _ rfl
  have q1 := HV1.out.ba.2 1 _ rfl
  have q2 := HV1.out.ba.2 2 _ rfl
  have q3 := HV1.out.ba.2 3 _ rfl
  have q4 := HV1.out.ba.2 4 _ rfl
  go_wp2_with fail
  refine (few_ref _ _ h w1 HV1.out.la).mono ?_
  rintro e w2 ⟨r, rfl, hr, hb2⟩
  have HV2 := Lib.hid (HV1.out.go hb2)
  have HB2 := Lib.hid (bel2 HB1.out hb2)
  have HR := Lib.hid hr
  clear q0 q1 q2 q3 q4 hb2 hr HV1 HB1
  cases r
  · go_wp2_with fail
    refine (awake_any w2).mono ?_
    rintro e wz ⟨rfl, hbz⟩
    go_wp2_with fail
    go_ret
    exact ⟨rfl, bel2 HB2.out hbz⟩
  obtain ⟨hsh, hcn⟩ := HR.out rfl
  have HSA := Lib.hid hsh
  have HCA := Lib.hid hcn
  clear hsh HR hcn
  have q0 := HV2.out.bb.2 0 _ rfl
  have q1 := HV2.out.bb.2 1 _ rfl
  have q2 := HV2.out.bb.2 2 _ rfl
  have q3 := HV2.out.bb.2 3 _ rfl
  have q4 := HV2.out.bb.2 4 _ rfl
  go_wp2_with fail
  refine (few_ref _ _ h' w2 HV2.out.lb).mono ?_
  rintro e w3 ⟨r, rfl, hr, hb3⟩
  have HV3 := Lib.hid (HV2.out.go hb3)
  have HB3 := Lib.hid (bel2 HB2.out hb3)
  have HR := Lib.hid hr
  clear q0 q1 q2 q3 q4 hb3 hr HV2 HB2
  cases r
  · go_wp2_with fail
    refine (awake_any w3).mono ?_
    rintro e wz ⟨rfl, hbz⟩
    go_wp2_with fail
    go_ret
    exact ⟨rfl, bel2 HB3.out hbz⟩
  obtain ⟨hsh, hcn⟩ := HR.out rfl
  have HSB := Lib.hid hsh
  have HCB := Lib.hid hcn
  clear hsh HR hcn
  have q0 := HV3.out.ba.2 0 _ rfl
  have q1 := HV3.out.ba.2 1 _ rfl
  have q2 := HV3.out.ba.2 2 _ rfl
  have q3 := HV3.out.ba.2 3 _ rfl
  have q4 := HV3.out.ba.2 4 _ rfl
  go_wp2_with fail
  refine (rightref _ _ h w3 HV3.out.la HSA.out).mono ?_
  rintro e w4 ⟨r, rfl, hr, hb4⟩
  have HV4 := Lib.hid (HV3.out.go hb4)
  have HB4 := Lib.hid (bel2 HB3.out hb4)
  have HRA := Lib.hid hr
  clear q0 q1 q2 q3 q4 hb4 hr HV3 HB3
  cases r
  · have HN := Lib.hid (show ¬ (a.R 12 ∧ b.R 12) from fun q => by have := HRA.out.2 q.1; cases this)
    clear HRA
    have q0 := HV4.out.ba.2 0 _ rfl
    have q1 := HV4.out.ba.2 1 _ rfl
    have q2 := HV4.out.ba.2 2 _ rfl
    have q3 := HV4.out.ba.2 3 _ rfl
    have q4 := HV4.out.ba.2 4 _ rfl
    have p0 := HV4.out.bb.2 0 _ rfl
    have p1 := HV4.out.bb.2 1 _ rfl
    have p2 := HV4.out.bb.2 2 _ rfl
    have p3 := HV4.out.bb.2 3 _ rfl
    have p4 := HV4.out.bb.2 4 _ rfl
    go_wp2_with fail
    refine (same_prog _ _ _ _ h h' w4 HV4.out.la HV4.out.lb HSA.out HSB.out (Nat.le_trans HCA.out (by decide)) (Nat.le_trans HCB.out (by decide))).mono ?_
    rintro e wP ⟨r, rfl, hr, hbP⟩
    have HVP := Lib.hid (HV4.out.go hbP)
    have HBP := Lib.hid (bel2 HB4.out hbP)
    clear q0 q1 q2 q3 q4 p0 p1 p2 p3 p4 hbP HV4 HB4
    obtain rfl : r = false := by
      cases r
      · rfl
      · exact absurd ⟨(hr.1 rfl).1, (hr.1 rfl).2.1⟩ HN.out
    clear hr
    have hbd : Below wP.heap.size wP wP.drew := (Below.refl _ _).drew
    have HVD := Lib.hid (HVP.out.go hbd)
    have HBD := Lib.hid (bel2 HBP.out hbd)
    clear hbd
    have HAL := Lib.hid (alike_prog _ _ _ _ h h' wP.drew HVD.out.la HVD.out.lb HSA.out HSB.out (Nat.le_trans HCA.out (by decide)) (Nat.le_trans HCB.out (by decide)))
    have HS0 := Lib.hid HVD.out.s
    have HS1 := Lib.hid (show ∀ (wF : World), Below wP.drew.heap.size wP.drew wF → S10 W.heap.size h (W.heap.size + 1) h' wF from fun wF hb => (HVD.out.go hb).s)
    unfold Hd.val at HAL
    have q0 := HVD.out.ba.2 0 _ rfl
    have q1 := HVD.out.ba.2 1 _ rfl
    have q2 := HVD.out.ba.2 2 _ rfl
    have q3 := HVD.out.ba.2 3 _ rfl
    have q4 := HVD.out.ba.2 4 _ rfl
    have p0 := HVD.out.bb.2 0 _ rfl
    have p1 := HVD.out.bb.2 1 _ rfl
    have p2 := HVD.out.bb.2 2 _ rfl
    have p3 := HVD.out.bb.2 3 _ rfl
    have p4 := HVD.out.bb.2 4 _ rfl
    go_wp2_with fail
    go_region_with (go_at_call 24; refine HAL.out.mono ?_; rintro e wF ⟨r1, rfl, hr1, hbF⟩)
    all_goals
      have HZ := Lib.hid (bel2 HBD.out hbF)
      obtain rfl : r1 = false := by
        cases r1
        · rfl
        · exact absurd ⟨(hr1.1 rfl).1, (hr1.1 rfl).2.1⟩ HN.out
      clear hr1 hbF
      go_wp2_with fail
      go_ret
      exact ⟨rfl, HZ.out⟩
  have HYA := Lib.hid (HRA.out.1 rfl)
  clear HRA
  have q0 := HV4.out.bb.2 0 _ rfl
  have q1 := HV4.out.bb.2 1 _ rfl
  have q2 := HV4.out.bb.2 2 _ rfl
  have q3 := HV4.out.bb.2 3 _ rfl
  have q4 := HV4.out.bb.2 4 _ rfl
  go_wp2_with fail
  refine (rightref _ _ h' w4 HV4.out.lb HSB.out).mono ?_
  rintro e w5 ⟨r, rfl, hr, hb5⟩
  have HV5 := Lib.hid (HV4.out.go hb5)
  have HB5 := Lib.hid (bel2 HB4.out hb5)
  have HRB := Lib.hid hr
  clear q0 q1 q2 q3 q4 hb5 hr HV4 HB4
  cases r
  · have HN := Lib.hid (show ¬ (a.R 12 ∧ b.R 12) from fun q => by have := HRB.out.2 q.2; cases this)
    clear HRB
    have q0 := HV5.out.ba.2 0 _ rfl
    have q1 := HV5.out.ba.2 1 _ rfl
    have q2 := HV5.out.ba.2 2 _ rfl
    have q3 := HV5.out.ba.2 3 _ rfl
    have q4 := HV5.out.ba.2 4 _ rfl
    have p0 := HV5.out.bb.2 0 _ rfl
    have p1 := HV5.out.bb.2 1 _ rfl
    have p2 := HV5.out.bb.2 2 _ rfl
    have p3 := HV5.out.bb.2 3 _ rfl
    have p4 := HV5.out.bb.2 4 _ rfl
    go_wp2_with fail
    refine (same_prog _ _ _ _ h h' w5 HV5.out.la HV5.out.lb HSA.out HSB.out (Nat.le_trans HCA.out (by decide)) (Nat.le_trans HCB.out (by decide))).mono ?_
    rintro e wP ⟨r, rfl, hr, hbP⟩
    have HVP := Lib.hid (HV5.out.go hbP)
    have HBP := Lib.hid (bel2 HB5.out hbP)
    clear q0 q1 q2 q3 q4 p0 p1 p2 p3 p4 hbP HV5 HB5
    obtain rfl : r = false := by
      cases r
      · rfl
      · exact absurd ⟨(hr.1 rfl).1, (hr.1 rfl).2.1⟩ HN.out
    clear hr
    have hbd : Below wP.heap.size wP wP.drew := (Below.refl _ _).drew
    have HVD := Lib.hid (HVP.out.go hbd)
    have HBD := Lib.hid (bel2 HBP.out hbd)
    clear hbd
    have HAL := Lib.hid (alike_prog _ _ _ _ h h' wP.drew HVD.out.la HVD.out.lb HSA.out HSB.out (Nat.le_trans HCA.out (by decide)) (Nat.le_trans HCB.out (by decide)))
    have HS0 := Lib.hid HVD.out.s
    have HS1 := Lib.hid (show ∀ (wF : World), Below wP.drew.heap.size wP.drew wF → S10 W.heap.size h (W.heap.size + 1) h' wF from fun wF hb => (HVD.out.go hb).s)
    unfold Hd.val at HAL
    have q0 := HVD.out.ba.2 0 _ rfl
    have q1 := HVD.out.ba.2 1 _ rfl
    have q2 := HVD.out.ba.2 2 _ rfl
    have q3 := HVD.out.ba.2 3 _ rfl
    have q4 := HVD.out.ba.2 4 _ rfl
    have p0 := HVD.out.bb.2 0 _ rfl
    have p1 := HVD.out.bb.2 1 _ rfl
    have p2 := HVD.out.bb.2 2 _ rfl
    have p3 := HVD.out.bb.2 3 _ rfl
    have p4 := HVD.out.bb.2 4 _ rfl
    go_wp2_with fail
    go_region_with (go_at_call 24; refine HAL.out.mono ?_; rintro e wF ⟨r1, rfl, hr1, hbF⟩)
    all_goals
      have HZ := Lib.hid (bel2 HBD.out hbF)
      obtain rfl : r1 = false := by
        cases r1
        · rfl
        · exact absurd ⟨(hr1.1 rfl).1, (hr1.1 rfl).2.1⟩ HN.out
      clear hr1 hbF
      go_wp2_with fail
      go_ret
      exact ⟨rfl, HZ.out⟩
  have HYB := Lib.hid (HRB.out.1 rfl)
  clear HRB
  have q0 := HV5.out.ba.2 0 _ rfl
  have q1 := HV5.out.ba.2 1 _ rfl
  have q2 := HV5.out.ba.2 2 _ rfl
  have q3 := HV5.out.ba.2 3 _ rfl
  have q4 := HV5.out.ba.2 4 _ rfl
  have p0 := HV5.out.bb.2 0 _ rfl
  have p1 := HV5.out.bb.2 1 _ rfl
  have p2 := HV5.out.bb.2 2 _ rfl
  have p3 := HV5.out.bb.2 3 _ rfl
  have p4 := HV5.out.bb.2 4 _ rfl
  go_wp2_with fail
  refine (same_prog _ _ _ _ h h' w5 HV5.out.la HV5.out.lb HSA.out HSB.out (Nat.le_trans HCA.out (by decide)) (Nat.le_trans HCB.out (by decide))).mono ?_
  rintro e wP ⟨r, rfl, hr, hbP⟩
  have HVP := Lib.hid (HV5.out.go hbP)
  have HBP := Lib.hid (bel2 HB5.out hbP)
  clear q0 q1 q2 q3 q4 p0 p1 p2 p3 p4 hbP HV5 HB5
  have q0 := HVP.out.ba.2 0 _ rfl
  have q1 := HVP.out.ba.2 1 _ rfl
  have q2 := HVP.out.ba.2 2 _ rfl
  have q3 := HVP.out.ba.2 3 _ rfl
  have q4 := HVP.out.ba.2 4 _ rfl
  have p0 := HVP.out.bb.2 0 _ rfl
  have p1 := HVP.out.bb.2 1 _ rfl
  have p2 := HVP.out.bb.2 2 _ rfl
  have p3 := HVP.out.bb.2 3 _ rfl
  have p4 := HVP.out.bb.2 4 _ rfl
  have HR := Lib.hid hr
  clear hr
  go_wp2_with fail
  refine (same_ref _ _ _ _ h h' wP HVP.out.la HVP.out.lb).mono ?_
  rintro e wQ ⟨r2, rfl, hr2, hbQ⟩
  have HVQ := Lib.hid (HVP.out.go hbQ)
  have HBQ := Lib.hid (bel2 HBP.out hbQ)
  obtain rfl : r2 = r := by
    cases r <;> cases r2
    · rfl
    · exact (HR.out.2 ⟨HYA.out, HYB.out, hr2.1 rfl⟩).symm
    · exact hr2.2 (HR.out.1 rfl).2.2
    · rfl
  clear q0 q1 q2 q3 q4 p0 p1 p2 p3 p4 hbQ hr2 HR HVP HBP
  have hbd : Below wQ.heap.size wQ wQ.drew := (Below.refl _ _).drew
  have HVD := Lib.hid (HVQ.out.go hbd)
  have HBD := Lib.hid (bel2 HBQ.out hbd)
  clear hbd
  have HAL := Lib.hid (alike_prog _ _ _ _ h h' wQ.drew HVD.out.la HVD.out.lb HSA.out HSB.out (Nat.le_trans HCA.out (by decide)) (Nat.le_trans HCB.out (by decide)))
  have HS0 := Lib.hid HVD.out.s
  have HS1 := Lib.hid (show ∀ (wF : World), Below wQ.drew.heap.size wQ.drew wF → S10 W.heap.size h (W.heap.size + 1) h' wF from fun wF hb => (HVD.out.go hb).s)
  unfold Hd.val at HAL
  have HSO := Lib.hid (show ∀ (wF : World), Below wQ.drew.heap.size wQ.drew wF → Calls Try.prog 25 #[h.val] wF (SrtR a wF) from fun wF hb => sorted_any _ _ h wF (HVD.out.go hb).la (Nat.le_trans HCA.out (by decide)))
  have HSP := Lib.hid (show ∀ (wF wG : World), Below wQ.drew.heap.size wQ.drew wF → Below wF.heap.size wF wG → Calls Try.prog 25 #[h'.val] wG (SrtR b wG) from fun wF wG hb hc => sorted_any _ _ h' wG (HVD.out.go (bel2 hb hc)).lb (Nat.le_trans HCB.out (by decide)))
  have HSQ := Lib.hid (show ∀ (wF wG wH : World) (hs1 hs2 : Hd), Lies wG (fun x => wF.heap.size ≤ x) a.srt hs1 → Below wG.heap.size wG wH → Lies wH (fun x => wG.heap.size ≤ x) b.srt hs2 → Calls Try.prog 21 #[hs1.val, hs2.val] wH (SameR a.srt b.srt wH) from fun wF wG wH hs1 hs2 l1 hb l2 => same_ref _ _ _ _ hs1 hs2 wH (l1.below hb (Nat.le_refl _)) l2)
  have HS2 := Lib.hid (show ∀ (wF wG : World), Below wQ.drew.heap.size wQ.drew wF → Below wF.heap.size wF wG → S10 W.heap.size h (W.heap.size + 1) h' wG from fun wF wG hb hc => HS1.out wG (bel2 hb hc))
  have HS3 := Lib.hid (show ∀ (wF wG wH : World), Below wQ.drew.heap.size wQ.drew wF → Below wF.heap.size wF wG → Below wG.heap.size wG wH → S10 W.heap.size h (W.heap.size + 1) h' wH from fun wF wG wH hb hc hd => HS1.out wH (bel2 (bel2 hb hc) hd))
  have HS4 := Lib.hid (show ∀ (wF wG wH wI : World), Below wQ.drew.heap.size wQ.drew wF → Below wF.heap.size wF wG → Below wG.heap.size wG wH → Below wH.heap.size wH wI → S10 W.heap.size h (W.heap.size + 1) h' wI from fun wF wG wH wI hb hc hd he => HS1.out wI (bel2 (bel2 (bel2 hb hc) hd) he))
  unfold Hd.val at HSO HSP HSQ
  cases r2
  all_goals go_wp2_with fail
  · go_region_held3 (fun w' => w'.cell? ⟨W.heap.size, 0, none⟩ = some (.int .i64 h.k) ∧ w'.cell? ⟨W.heap.size, 1, none⟩ = some (.int .i64 h.n) ∧ w'.cell? ⟨W.heap.size, 2, none⟩ = some (.string h.s) ∧ w'.cell? ⟨W.heap.size, 3, none⟩ = some (.slice h.A h.la h.lc) ∧ w'.cell? ⟨W.heap.size, 4, none⟩ = some (.slice h.F h.lf h.fc) ∧ w'.cell? ⟨W.heap.size + 1, 0, none⟩ = some (.int .i64 h'.k) ∧ w'.cell? ⟨W.heap.size + 1, 1, none⟩ = some (.int .i64 h'.n) ∧ w'.cell? ⟨W.heap.size + 1, 2, none⟩ = some (.string h'.s) ∧ w'.cell? ⟨W.heap.size + 1, 3, none⟩ = some (.slice h'.A h'.la h'.lc) ∧ w'.cell? ⟨W.heap.size + 1, 4, none⟩ = some (.slice h'.F h'.lf h'.fc))
      (first
        | (have h7 := HS4.out _ _ _ _ hbF hbG hbH hbI; with_reducible exact h7)
        | (have h7 := HS3.out _ _ _ hbF hbG hbH; with_reducible exact h7)
        | (have h7 := HS2.out _ _ hbF hbG; with_reducible exact h7)
        | (have h7 := HS1.out _ hbF; with_reducible exact h7)
        | (have h7 := HS0.out; with_reducible exact h7)
        | fail)
      (first
        | (go_at_call 21; refine (HSQ.out _ _ _ _ _ hl1 hbH hl2).mono ?_; rintro e wI ⟨r2, rfl, hr2, hbI⟩)
        | (go_at_call 25; refine (HSP.out _ _ hbF hbG).mono ?_; rintro e wH ⟨hs2, rfl, hl2, hbH⟩)
        | (go_at_call 25; refine (HSO.out _ hbF).mono ?_; rintro e wG ⟨hs1, rfl, hl1, hbG⟩)
        | (go_at_call 24; refine HAL.out.mono ?_; rintro e wF ⟨r1, rfl, hr1, hbF⟩)
        | fail)
    have HZ := Lib.hid (bel2 (bel2 (bel2 (bel2 HBD.out hbF) hbG) hbH) hbI)
    obtain rfl : r2 = r1 := by
      cases r1 <;> cases r2
      · rfl
      · exact (hr1.2 ⟨HYA.out, HYB.out, hr2.1 rfl⟩).symm
      · exact hr2.2 (hr1.1 rfl).2.2
      · rfl
    clear hr1 hr2 hl1 hl2 hbF hbG hbH hbI
    go_wp2_with fail
    go_ret
    exact ⟨by simp, HZ.out⟩
  · go_region_held3 (fun w' => w'.cell? ⟨W.heap.size, 0, none⟩ = some (.int .i64 h.k) ∧ w'.cell? ⟨W.heap.size, 1, none⟩ = some (.int .i64 h.n) ∧ w'.cell? ⟨W.heap.size, 2, none⟩ = some (.string h.s) ∧ w'.cell? ⟨W.heap.size, 3, none⟩ = some (.slice h.A h.la h.lc) ∧ w'.cell? ⟨W.heap.size, 4, none⟩ = some (.slice h.F h.lf h.fc) ∧ w'.cell? ⟨W.heap.size + 1, 0, none⟩ = some (.int .i64 h'.k) ∧ w'.cell? ⟨W.heap.size + 1, 1, none⟩ = some (.int .i64 h'.n) ∧ w'.cell? ⟨W.heap.size + 1, 2, none⟩ = some (.string h'.s) ∧ w'.cell? ⟨W.heap.size + 1, 3, none⟩ = some (.slice h'.A h'.la h'.lc) ∧ w'.cell? ⟨W.heap.size + 1, 4, none⟩ = some (.slice h'.F h'.lf h'.fc))
      (first
        | (have h7 := HS4.out _ _ _ _ hbF hbG hbH hbI; with_reducible exact h7)
        | (have h7 := HS3.out _ _ _ hbF hbG hbH; with_reducible exact h7)
        | (have h7 := HS2.out _ _ hbF hbG; with_reducible exact h7)
        | (have h7 := HS1.out _ hbF; with_reducible exact h7)
        | (have h7 := HS0.out; with_reducible exact h7)
        | fail)
      (first
        | (go_at_call 21; refine (HSQ.out _ _ _ _ _ hl1 hbH hl2).mono ?_; rintro e wI ⟨r2, rfl, hr2, hbI⟩)
        | (go_at_call 25; refine (HSP.out _ _ hbF hbG).mono ?_; rintro e wH ⟨hs2, rfl, hl2, hbH⟩)
        | (go_at_call 25; refine (HSO.out _ hbF).mono ?_; rintro e wG ⟨hs1, rfl, hl1, hbG⟩)
        | (go_at_call 24; refine HAL.out.mono ?_; rintro e wF ⟨r1, rfl, hr1, hbF⟩)
        | fail)
    have HZ := Lib.hid (bel2 (bel2 (bel2 (bel2 HBD.out hbF) hbG) hbH) hbI)
    obtain rfl : r2 = r1 := by
      cases r1 <;> cases r2
      · rfl
      · exact (hr1.2 ⟨HYA.out, HYB.out, hr2.1 rfl⟩).symm
      · exact hr2.2 (hr1.1 rfl).2.2
      · rfl
    clear hr1 hr2 hl1 hl2 hbF hbG hbH hbI
    go_wp2_with fail
    go_ret
    exact ⟨by simp, HZ.out⟩
theorem own : ownKnob Try.prog.godebug = none := by kernel_rfl
theorem laidOut : laidOutB Try.prog = true := by kernel_rfl
set_option maxRecDepth 100000 in
theorem lifted (os : Os) (started : os.Started) (H : Type) (enc : TypeId × Value → H) :
    ReturnsInHanded {} Try.checked os 4 .any (Rows.treeSameSpec.pre6 enc Try.prog Try.f4 Rows.treeSameRow.domain false) (Rows.treeSameSpec.post enc Try.prog Try.f4 false true false false) := by
  refine returnsInHanded_of_change (C := Try.checked) own started (by kernel_rfl) Try.func4
    (ChangeSpec.witness6 (enc := enc) (C := Try.checked) false ⟨#[], #[.agg #[.int .i64 0, .int .i64 0, .string ByteArray.empty, .slice none 0 0, .slice none 0 0], .agg #[.int .i64 0, .int .i64 0, .string ByteArray.empty, .slice none 0 0, .slice none 0 0]], []⟩ 8 (by kernel_rfl) (by kernel_rfl) (by kernel_rfl) (by kernel_rfl)) ?_
  intro W base args ds gs before hval0 hW hcnd _
  have hval : ∀ (j : Nat) t v, Try.f4.params[j]? = some t → args[j]? = some v → Value.okWide Try.prog W .any base t v := hval0
  have hW' := hW
  obtain ⟨p, q, hA0, hV, rfl, hfz, hnd⟩ := hW
  have hA : DataW.TrodAll enc Try.prog W 0 (fun _ => true) true Try.f4.params.toList args.toList ds p := hA0
  rw [Try.params4] at hA hval
  obtain ⟨v0, vs0, d0, ds0, p0, q0, hargs, rfl, rfl, h0, r0⟩ := trodAll_cons hA
  obtain ⟨v1, vs1, d1, ds1, p1, q1, rfl, rfl, rfl, h1, r1⟩ := trodAll_cons r0
  obtain ⟨rfl, rfl, rfl⟩ := trodAll_nil r1
  obtain rfl : args = #[v0, v1] := by cases args; simp_all
  obtain ⟨rfl, rfl⟩ := trodVars_none hV
  have k0 := h0
  have lt0 : ∀ x ∈ p0, x.block < W.heap.size := by obtain ⟨m, hm⟩ := k0; exact DataW.trod_lt m _ _ _ hm
  obtain ⟨a0, g0, rfl, w0⟩ := open_value (hval 0 25 v0 rfl rfl) h0
  have k1 := h1
  have lt1 : ∀ x ∈ p1, x.block < W.heap.size := by obtain ⟨m, hm⟩ := k1; exact DataW.trod_lt m _ _ _ hm
  obtain ⟨a1, g1, rfl, w1⟩ := open_value (hval 1 25 v1 rfl rfl) h1
  clear hA0 hval0
  refine (walk W a0 g0 w0 a1 g1 w1).mono fun e W' ⟨he, bel⟩ => ?_
  subst he
  exact ⟨_, rfl, _, _, _, [], _, [], hW', trodAll_mk1 (shut_bool Try.underlying4 _), (trodAll_cons_mk (Below.trod laidOut (by kernel_rfl) (of_decide_eq_true (by kernel_rfl)) k0 bel lt0) (trodAll_cons_mk (Below.trod laidOut (by kernel_rfl) (of_decide_eq_true (by kernel_rfl)) k1 bel lt1) trodAll_mk0)), rfl, bel.frame _, fun h => by cases h⟩
theorem over : Rows.treeSameRow.holds Try.pinned (OpenSpec.ofChange Rows.treeSameSpec) :=
  OpenClaim.holds_of_wide 4 Try.f4 rfl rfl rfl rfl rfl rfl rfl ⟨rfl, rfl, rfl, rfl, rfl⟩ rfl rfl rfl rfl rfl (by kernel_rfl) Try.func4 (by kernel_rfl)
    (of_decide_eq_true (by kernel_rfl)) (by unfold Func.isWrapper; first | (rw [if_pos (by decide +kernel)]; kernel_rfl) | (rw [if_neg (by decide +kernel)]; exact ⟨rfl, rfl⟩))
    (fun os started H enc _ => lifted os started H enc)
theorem proved : Rows.TreeSameSaid := over
end Go.Proofs.Ytlhmdbloddpfbaa.treeSame
namespace Go.Proofs.Ytlhmdbloddpfbaa
theorem treeSame_holds : Rows.TreeSameSaid := treeSame.proved
#print axioms treeSame_holds
end Go.Proofs.Ytlhmdbloddpfbaa
