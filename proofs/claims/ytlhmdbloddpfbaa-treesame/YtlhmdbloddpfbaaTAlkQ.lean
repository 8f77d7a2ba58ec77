/- tree.Alike, walked. -/
import Derived.Test.YtlhmdbloddpfbaaTAlkP
import Derived.Test.YtlhmdbloddpfbaaTSameQ
import Derived.Deep.RegionHeld3
set_option linter.unusedVariables false
set_option linter.unusedSimpArgs false
namespace Go.Proofs.Ytlhmdbloddpfbaa
open Go.RowKit
/-- What a statement loads of two boxes. -/
abbrev S10 (N : Nat) (h : Hd) (M : Nat) (hs : Hd) (w' : World) : Prop := w'.cell? ⟨N, 0, none⟩ = some (.int .i64 h.k) ∧ w'.cell? ⟨N, 1, none⟩ = some (.int .i64 h.n) ∧ w'.cell? ⟨N, 2, none⟩ = some (.string h.s) ∧ w'.cell? ⟨N, 3, none⟩ = some (.slice h.A h.la h.lc) ∧ w'.cell? ⟨N, 4, none⟩ = some (.slice h.F h.lf h.fc) ∧ w'.cell? ⟨M, 0, none⟩ = some (.int .i64 hs.k) ∧ w'.cell? ⟨M, 1, none⟩ = some (.int .i64 hs.n) ∧ w'.cell? ⟨M, 2, none⟩ = some (.string hs.s) ∧ w'.cell? ⟨M, 3, none⟩ = some (.slice hs.A hs.la hs.lc) ∧ w'.cell? ⟨M, 4, none⟩ = some (.slice hs.F hs.lf hs.fc)
theorem S10.of {w : World} {N M : Nat} {h hs : Hd} (H : Bx w N h) (K : Bx w M hs) : S10 N h M hs w := ⟨H.2 0 _ rfl, H.2 1 _ rfl, H.2 2 _ rfl, H.2 3 _ rfl, H.2 4 _ rfl, K.2 0 _ rfl, K.2 1 _ rfl, K.2 2 _ rfl, K.2 3 _ rfl, K.2 4 _ rfl⟩
theorem bel2 {w w1 w2 : World} (h : Below w.heap.size w w1) (k : Below w1.heap.size w1 w2) : Below w.heap.size w w2 := h.trans (k.mono h.size)
/-- Same of two sorted ones. -/
theorem same_srt (a b : Va) (h h' : Hd) (w : World) (hea : a.Ev) (heb : b.Ev) (hsa : a.Sh) (hsb : b.Sh) (hca : a.cnt ≤ 1000) (hcb : b.cnt ≤ 1000) (hra : a.R 12) (hrb : b.R 12) {T1 T2 : Nat → Prop} (H : Own w a.srt T1 h) (H' : Own w b.srt T2 h') :
    Calls Try.prog 23 #[h.val, h'.val] w fun e w' => YesNo (a.srt = b.srt) w e w' := by
  have q1 := srt_all a hea
  have q2 := srt_all b heb
  refine (same_prog a.srt b.srt T1 T2 h h' w (Own.lies _ _ _ H) (Own.lies _ _ _ H') (q1.2.1 hsa) (q2.2.1 hsb) (by omega) (by omega)).mono ?_
  rintro e w1 ⟨r, rfl, hr, hb⟩
  exact ⟨r, rfl, ⟨fun q => (hr.1 q).2.2, fun q => hr.2 ⟨q1.2.2 _ hra, q2.2.2 _ hrb, q⟩⟩, hb⟩
set_option maxHeartbeats 4000000 in
set_option maxRecDepth 100000 in
theorem alike_prog (a b : Va) (S S' : Nat → Prop) (h h' : Hd) (w : World) (H : Lies w S a h) (H' : Lies w S' b h') (hsa : a.Sh) (hsb : b.Sh) (hca : a.cnt ≤ 1000) (hcb : b.cnt ≤ 1000) :
    Calls Try.prog 24 #[h.val, h'.val] w fun e w' => YesNo (a.R 12 ∧ b.R 12 ∧ a.srt = b.srt) w e w' := by
  have HH := Lib.hid H
  have HH' := Lib.hid H'
  have HSA := Lib.hid hsa
  have HSB := Lib.hid hsb
  clear H H' hsa hsb
  unfold Hd.val
  go_enter Try.func24, Try.ntmps24
  go_wp2_with fail
  refine (right_prog a S h _ (HH.out.below (twoA w _ _) (Nat.le_refl _)) HSA.out hca).mono ?_
  rintro e w1 ⟨r, rfl, hr, hb1⟩
  have HB := Lib.hid ((twoA w _ _).trans (hb1.mono (twoA w _ _).size))
  have hbv : Bx w1 w.heap.size h := ((Bx.start w h 25).alloc _).go hb1 (by simp; omega)
  have hbx : Bx w1 (w.heap.size + 1) h' := (Bx.start' _ h' 25 (by simp)).go hb1 (by simp)
  have HV := Lib.hid hbv
  have HX := Lib.hid hbx
  have HR := Lib.hid hr
  have x0 := hbx.2 0 _ rfl
  have x1 := hbx.2 1 _ rfl
  have x2 := hbx.2 2 _ rfl
  have x3 := hbx.2 3 _ rfl
  have x4 := hbx.2 4 _ rfl
  clear hb1 hr hbv hbx
  cases r
  · clear x0 x1 x2 x3 x4
    go_wp2_with fail
    go_ret
    exact YesNo.no (fun q => by have := HR.out.2 q.1; cases this) HB.out
  have HRA := Lib.hid (HR.out.1 rfl)
  clear HR
  go_wp2_with fail
  refine (right_prog b S' h' w1 (HH'.out.below HB.out (Nat.le_refl _)) HSB.out hcb).mono ?_
  rintro e w2 ⟨r, rfl, hr, hb2⟩
  have HB2 := Lib.hid (HB.out.trans (hb2.mono HB.out.size))
  have hbv := HV.out.go hb2 HV.out.1
  have hbx := HX.out.go hb2 HX.out.1
  have HR := Lib.hid hr
  clear hb2 hr x0 x1 x2 x3 x4
  cases r
  · clear hbv hbx
    go_wp2_with fail
    go_ret
    exact YesNo.no (fun q => by have := HR.out.2 q.2.1; cases this) HB2.out
  have HRB := Lib.hid (HR.out.1 rfl)
  clear HR HV HX
  have hbd : Below w2.heap.size w2 w2.drew := (Below.refl _ _).drew
  have HV := Lib.hid (hbv.go hbd hbv.1)
  have HX := Lib.hid (hbx.go hbd hbx.1)
  have HBD := Lib.hid (bel2 HB2.out hbd)
  have hn1 := hbv.1
  have hn2 := hbx.1
  clear hbv hbx hbd HB2
  have HLA := Lib.hid (sorted_prog sort_pairs a S h w2.drew (HH.out.below HBD.out (Nat.le_refl _)) HSA.out hca ⟨_, HRA.out⟩)
  have HLB := Lib.hid (show ∀ wF, Below w2.drew.heap.size w2.drew wF → Calls Try.prog 59 #[h'.val] wF (NewR b.srt wF) from fun wF hb => sorted_prog sort_pairs b S' h' wF (HH'.out.below (bel2 HBD.out hb) (Nat.le_refl _)) HSB.out hcb ⟨_, HRB.out⟩)
  have HLC := Lib.hid (show ∀ wF wG hs1 T1 hs2 T2, Own wF a.srt T1 hs1 → (∀ b, T1 b → w2.drew.heap.size ≤ b ∧ b < wF.heap.size) → Below wF.heap.size wF wG → Own wG b.srt T2 hs2 → Calls Try.prog 23 #[hs1.val, hs2.val] wG (YesNo (a.srt = b.srt) wG) from
    fun wF wG hs1 T1 hs2 T2 o1 t1 hb o2 => same_srt a b hs1 hs2 wG (lies_ev _ _ _ HH.out) (lies_ev _ _ _ HH'.out) HSA.out HSB.out hca hcb HRA.out HRB.out (Own.keep _ _ _ o1 fun x q => hb.block x (t1 x q).2) o2)
  have HS0 := Lib.hid (S10.of HV.out HX.out)
  have HS1 := Lib.hid (show ∀ wF, Below w2.drew.heap.size w2.drew wF → S10 w.heap.size h (w.heap.size + 1) h' wF from fun wF hb => S10.of (HV.out.go hb HV.out.1) (HX.out.go hb HX.out.1))
  have HS2 := Lib.hid (show ∀ wF wG, Below w2.drew.heap.size w2.drew wF → Below wF.heap.size wF wG → S10 w.heap.size h (w.heap.size + 1) h' wG from fun wF wG hb hc => HS1.out wG (bel2 hb hc))
  have HS3 := Lib.hid (show ∀ wF wG wH, Below w2.drew.heap.size w2.drew wF → Below wF.heap.size wF wG → Below wG.heap.size wG wH → S10 w.heap.size h (w.heap.size + 1) h' wH from fun wF wG wH hb hc hd => HS1.out wH (bel2 (bel2 hb hc) hd))
  unfold Hd.val at HLA HLB HLC
  clear HH HH' HSA HSB
  have v0 := (HV.out).2 0 _ rfl
  go_wp2_with fail
  go_region_held3 (fun w' => w'.cell? ⟨w.heap.size, 0, none⟩ = some (.int .i64 h.k) ∧ w'.cell? ⟨w.heap.size, 1, none⟩ = some (.int .i64 h.n) ∧ w'.cell? ⟨w.heap.size, 2, none⟩ = some (.string h.s) ∧ w'.cell? ⟨w.heap.size, 3, none⟩ = some (.slice h.A h.la h.lc) ∧ w'.cell? ⟨w.heap.size, 4, none⟩ = some (.slice h.F h.lf h.fc) ∧ w'.cell? ⟨w.heap.size + 1, 0, none⟩ = some (.int .i64 h'.k) ∧ w'.cell? ⟨w.heap.size + 1, 1, none⟩ = some (.int .i64 h'.n) ∧ w'.cell? ⟨w.heap.size + 1, 2, none⟩ = some (.string h'.s) ∧ w'.cell? ⟨w.heap.size + 1, 3, none⟩ = some (.slice h'.A h'.la h'.lc) ∧ w'.cell? ⟨w.heap.size + 1, 4, none⟩ = some (.slice h'.F h'.lf h'.fc))
    (first
      | (have h7 := HS3.out _ _ _ hbF hbG hbH; with_reducible exact h7)
      | (have h7 := HS2.out _ _ hbF hbG; with_reducible exact h7)
      | (have h7 := HS1.out _ hbF; with_reducible exact h7)
      | (have h7 := HS0.out; with_reducible exact h7)
      | fail)
    (first
      | (go_at_call 23; refine (HLC.out _ _ _ _ _ _ hown1 hT1 hbG hown2).mono ?_; rintro e wH ⟨r, rfl, hr, hbH⟩)
      | (go_at_call 59; refine (HLB.out _ hbF).mono ?_; rintro e wG ⟨hs2, T2, rfl, hown2, hT2, hbG⟩)
      | (go_at_call 59; refine HLA.out.mono ?_; rintro e wF ⟨hs1, T1, rfl, hown1, hT1, hbF⟩)
      | fail)
  have HZ := Lib.hid (bel2 (bel2 (bel2 HBD.out hbF) hbG) hbH)
  have HR := Lib.hid hr
  clear hr hown1 hown2 hT1 hT2 hbF hbG hbH
  go_wp2_with fail
  go_ret
  exact ⟨r, rfl, ⟨fun q => ⟨HRA.out, HRB.out, HR.out.1 q⟩, fun q => HR.out.2 q.2.2⟩, HZ.out⟩
end Go.Proofs.Ytlhmdbloddpfbaa
