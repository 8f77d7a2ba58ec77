/- tree.Same: the closure, and the whole. -/
import Derived.Test.YtlhmdbloddpfbaaTSameP
set_option linter.unusedVariables false
set_option linter.unusedSimpArgs false
namespace Go.Proofs.Ytlhmdbloddpfbaa
open Go.RowKit
set_option maxHeartbeats 1000000 in
set_option maxRecDepth 100000 in
theorem same1_any (C : Nat) : ∀ (a : Va), a.cnt ≤ 1000 → ∀ (b : Va), SameC C a b := by
  intro a
  induction a using Va.ind with
  | h k nn s l ks f ihl ihf =>
  intro hcn b S S' h h' w H H' hc
  obtain ⟨k', nn', s', l', ks', f'⟩ := b
  simp only [Va.cnt] at hcn
  have hl1 := len_le_cntL l
  have hf1 := len_le_cntL f
  have HIL := Lib.hid (show ∀ (i : Nat) x y, l[i]? = some x → l'[i]? = some y → SameC C x y from fun i x y hx _ => ihl x (List.mem_of_getElem? hx) (by have := cntL_mem (List.mem_of_getElem? hx); omega) y)
  have HIF := Lib.hid (show ∀ (i : Nat) x y, f[i]? = some x → f'[i]? = some y → SameC C x y from fun i x y hx _ => ihf x (List.mem_of_getElem? hx) (by have := cntL_mem (List.mem_of_getElem? hx); omega) y)
  clear ihl ihf
  have Hop := Lib.hid H.op
  have Hop' := Lib.hid H'.op
  simp only [Lies] at H H'
  obtain ⟨⟨e1, e2, e3, e4, e5, e6⟩, -, -, -⟩ := H
  obtain ⟨⟨e1', e2', e3', e4', e5', e6'⟩, -, -, -⟩ := H'
  obtain ⟨hk, hnn, hs, A, la, lc, F, lf, fc⟩ := h
  obtain ⟨hk', hnn', hs', A', la', lc', F', lf', fc'⟩ := h'
  simp only at e1 e2 e3 e4 e5
  simp only at e1' e2' e3' e4' e5'
  subst e1 e2 e3 e1' e2' e3' e4 e5 e4' e5'
  unfold Hd.val
  simp only
  have hC : C < w.heap.size := World.block_lt_of_cell? w _ hc
  have E6 := Lib.hid e6
  have E6' := Lib.hid e6'
  clear e6 e6'
  have fin : ∀ wx, Below w.heap.size w wx → (Va.mk hk hnn hs l ks f ≠ Va.mk hk' hnn' hs' l' ks' f') → SameR (Va.mk hk hnn hs l ks f) (Va.mk hk' hnn' hs' l' ks' f') w (.returned (.bool false)) wx :=
    fun wx hb hne => ⟨false, rfl, ⟨fun h => absurd h (by decide), fun h => absurd h hne⟩, hb⟩
  have FIN := Lib.hid fin
  clear fin
  by_cases h1 : hk = hk'
  case neg =>
    go_enter Try.func55, Try.ntmps55
    go_wp2_with fail
    go_ret
    exact FIN.out _ (twoA w _ _) (by intro e; injection e; contradiction)
  by_cases h2 : hnn = hnn'
  case neg =>
    go_enter Try.func55, Try.ntmps55
    go_wp2_with fail
    go_ret
    exact FIN.out _ (twoA w _ _) (by intro e; injection e; contradiction)
  by_cases h3 : hs = hs'
  case neg =>
    have h3' := bytes_ne h3
    go_enter Try.func55, Try.ntmps55
    go_wp2_with fail
    go_ret
    exact FIN.out _ (twoA w _ _) (by intro e; injection e; contradiction)
  subst h1 h2 h3
  go_enter Try.func55, Try.ntmps55
  go_wp2_with fail
  refine (eqv_any l l' S S' A A' lc lc' C _ (by omega) (RowV.below Hop.out.L (twoA w _ _)) (RowV.below Hop'.out.L (twoA w _ _)) (((twoA w _ _).cell (p := ⟨C, 0, none⟩) hC).trans hc) HIL.out).mono ?_
  rintro e w1 ⟨r, rfl, hr, hb1⟩
  have hb2 : Below w.heap.size w w1 := (twoA w _ _).trans (hb1.mono (twoA w _ _).size)
  have hbv : Bx w1 w.heap.size ⟨hk, hnn, hs, A, l.length, lc, F, f.length, fc⟩ := ((Bx.start w ⟨hk, hnn, hs, A, l.length, lc, F, f.length, fc⟩ 25).alloc _).go hb1 (by simp; omega)
  have hbx : Bx w1 (w.heap.size + 1) ⟨hk, hnn, hs, A', l'.length, lc', F', f'.length, fc'⟩ := (Bx.start' _ ⟨hk, hnn, hs, A', l'.length, lc', F', f'.length, fc'⟩ 25 (by simp)).go hb1 (by simp)
  have HR := Lib.hid hr
  have HB := Lib.hid hb2
  have cF := hbv.2 4 _ rfl
  have cF' := hbx.2 4 _ rfl
  clear hr hb1 hb2 hbv hbx
  cases r
  · go_wp2_with fail
    go_ret
    exact FIN.out _ HB.out (by intro e; injection e with _ _ _ e4; have := HR.out.2 e4; cases this)
  · have HEL := Lib.hid (HR.out.1 rfl)
    clear HR
    go_wp2_with fail
    refine (eqp_any ks ks' f f' S S' F F' fc fc' C w1 (by omega) E6.out E6'.out (RowP.below Hop.out.K HB.out) (RowP.below Hop'.out.K HB.out) ((HB.out.cell (p := ⟨C, 0, none⟩) hC).trans hc) HIF.out).mono ?_
    rintro e w2 ⟨r, rfl, hr, hb3⟩
    have HR := Lib.hid hr
    have HB3 := Lib.hid (HB.out.trans (hb3.mono HB.out.size))
    clear hr hb3
    go_wp2_with fail
    go_ret
    refine ⟨r, rfl, ⟨fun hr => ?_, fun he => ?_⟩, HB3.out⟩
    · have := HR.out.1 hr
      rw [HEL.out, this.1, this.2]
    · injection he with _ _ _ _ h5 h6
      exact HR.out.2 ⟨h5, h6⟩
set_option maxHeartbeats 1000000 in
theorem same_prog (a b : Va) (S S' : Nat → Prop) (h h' : Hd) (w : World) (H : Lies w S a h) (H' : Lies w S' b h') (hsa : a.Sh) (hsb : b.Sh) (hca : a.cnt ≤ 1000) (hcb : b.cnt ≤ 1000) :
    Calls Try.prog 23 #[h.val, h'.val] w fun e w' => YesNo (a.R 12 ∧ b.R 12 ∧ a = b) w e w' := by
  have HH := Lib.hid H
  have HH' := Lib.hid H'
  have HSA := Lib.hid hsa
  have HSB := Lib.hid hsb
  clear H H' hsa hsb
  unfold Hd.val
  go_enter Try.func23, Try.ntmps23
  go_wp2_with fail
  refine (right_prog a S h _ (HH.out.below (twoA w _ _) (Nat.le_refl _)) HSA.out hca).mono ?_
  rintro e w1 ⟨r, rfl, hr, hb1⟩
  have HB := Lib.hid ((twoA w _ _).trans (hb1.mono (twoA w _ _).size))
  have hbv : Bx w1 w.heap.size h := ((Bx.start w h 25).alloc _).go hb1 (by simp; omega)
  have hbx : Bx w1 (w.heap.size + 1) h' := (Bx.start' _ h' 25 (by simp)).go hb1 (by simp)
  have HV := Lib.hid hbv
  have HX := Lib.hid hbx
  have HR := Lib.hid hr
  have x0 := hbx.2 0 _ rfl
  have x1 := hbx.2 1 _ rfl
  have x2 := hbx.2 2 _ rfl
  have x3 := hbx.2 3 _ rfl
  have x4 := hbx.2 4 _ rfl
  clear hb1 hr hbv hbx
  cases r
  · clear x0 x1 x2 x3 x4
    go_wp2_with fail
    go_ret
    exact YesNo.no (fun q => by have := HR.out.2 q.1; cases this) HB.out
  have HRA := Lib.hid (HR.out.1 rfl)
  clear HR
  go_wp2_with fail
  refine (right_prog b S' h' w1 (HH'.out.below HB.out (Nat.le_refl _)) HSB.out hcb).mono ?_
  rintro e w2 ⟨r, rfl, hr, hb2⟩
  have HB2 := Lib.hid (HB.out.trans (hb2.mono HB.out.size))
  have hbv := HV.out.go hb2 HV.out.1
  have hbx := HX.out.go hb2 HX.out.1
  have HR := Lib.hid hr
  clear hb2 hr x0 x1 x2 x3 x4
  cases r
  · clear hbv hbx
    go_wp2_with fail
    go_ret
    exact YesNo.no (fun q => by have := HR.out.2 q.2.1; cases this) HB2.out
  have HRB := Lib.hid (HR.out.1 rfl)
  clear HR
  have v0 := hbv.2 0 _ rfl
  have v1 := hbv.2 1 _ rfl
  have v2 := hbv.2 2 _ rfl
  have v3 := hbv.2 3 _ rfl
  have v4 := hbv.2 4 _ rfl
  have x0 := hbx.2 0 _ rfl
  have x1 := hbx.2 1 _ rfl
  have x2 := hbx.2 2 _ rfl
  have x3 := hbx.2 3 _ rfl
  have x4 := hbx.2 4 _ rfl
  have hn1 := hbv.1
  have hn2 := hbx.1
  clear hbv hbx
  go_wp2_with fail
  refine (same1_any w2.heap.size a hca b S S' h h' _ ((HH.out.below HB2.out (Nat.le_refl _)).below ((Below.refl _ _).alloc (Nat.le_refl _) _) (Nat.le_refl _)) ((HH'.out.below HB2.out (Nat.le_refl _)).below ((Below.refl _ _).alloc (Nat.le_refl _) _) (Nat.le_refl _)) (World.cell?_alloc_new w2 _ _ 0)).mono ?_
  rintro e w3 ⟨r, rfl, hr, hb3⟩
  have HR := Lib.hid hr
  have HB3 := Lib.hid (HB2.out.trans ((after_alloc hb3).1.mono HB2.out.size))
  clear hr hb3
  go_wp2_with fail
  go_ret
  exact ⟨r, rfl, ⟨fun q => ⟨HRA.out, HRB.out, HR.out.1 q⟩, fun q => HR.out.2 q.2.2⟩, HB3.out⟩
end Go.Proofs.Ytlhmdbloddpfbaa
