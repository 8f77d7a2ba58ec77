/- The reference's Same. -/
import Derived.Test.YtbinmhcjadkmgaaDoorTCnt
import Derived.StillTailTactics
import Derived.Deep.QuietTactic
import Derived.BigQuiet
set_option linter.unusedVariables false
set_option linter.unusedSimpArgs false
namespace Go.Proofs.YtbinmhcjadkmgaaDoor
open Go.RowKit
theorem below_drewN' {B : Nat} {a w : World} (h : Below B a w) (n : Nat) : Below B a (w.drewN n) := ⟨h.os, h.tape, h.output, h.size, h.block⟩
/-- Two lists are one as far as i. -/
def EqTo {α : Type} (l m : List α) (i : Nat) : Prop := l.take i = m.take i
theorem EqTo.step {α : Type} {l m : List α} {i : Nat} {x : α} (h : EqTo l m i) (hx : l[i]? = some x) (hy : m[i]? = some x) : EqTo l m (i + 1) := by
  unfold EqTo at *
  rw [take_next hx, take_next hy, h]
theorem EqTo.all {α : Type} {l m : List α} {i : Nat} (h : EqTo l m i) (h1 : l.length ≤ i) (h2 : m.length ≤ i) : l = m := by
  unfold EqTo at h
  rwa [List.take_of_length_le h1, List.take_of_length_le h2] at h
theorem ne_at {α : Type} {l m : List α} {i : Nat} {x y : α} (hx : l[i]? = some x) (hy : m[i]? = some y) (h : x ≠ y) : l ≠ m := by
  rintro rfl
  rw [hx] at hy
  exact h (Option.some.inj hy)
/-- What Same answers. -/
def SameR (a b : Va) (w : World) (e : Ending) (w' : World) : Prop := ∃ r : Bool, e = .returned (.bool r) ∧ (r = true ↔ a = b) ∧ Below w.heap.size w w'
set_option maxHeartbeats 400000 in
set_option maxRecDepth 100000 in
theorem same_ref : ∀ (a b : Va) (S S' : Nat → Prop) (h h' : Hd) (w : World), Lies w S a h → Lies w S' b h' → Calls Tryd.prog 13 #[h.val, h'.val] w fun e w' => SameR a b w e w' := by
  intro a
  induction a using Va.ind with
  | h k nn s l ks f ihl ihf =>
  intro b S S' h h' w H H'
  obtain ⟨k', nn', s', l', ks', f'⟩ := b
  have Hop := H.op
  have Hop' := H'.op
  simp only [Lies] at H H'
  obtain ⟨⟨e1, e2, e3, e4, e5, e6⟩, ⟨b1, b2, b3, b4, b5, b6, b7, b8⟩, -, -⟩ := H
  obtain ⟨⟨e1', e2', e3', e4', e5', e6'⟩, ⟨b1', b2', b3', b4', b5', b6', b7', b8'⟩, -, -⟩ := H'
  obtain ⟨hk, hnn, hs, A, la, lc, F, lf, fc⟩ := h
  obtain ⟨hk', hnn', hs', A', la', lc', F', lf', fc'⟩ := h'
  simp only at e1 e2 e3 e4 e5 b7 b8
  simp only at e1' e2' e3' e4' e5' b7' b8'
  subst e1 e2 e3 e1' e2' e3' e4 e5 e4' e5'
  unfold Hd.val
  simp only
  have hml : maxLen ≤ 9223372036854775807 := by decide
  have b5'' : l.length ≤ 9223372036854775807 := Nat.le_trans b5 hml
  have b6'' : f.length ≤ 9223372036854775807 := Nat.le_trans b6 hml
  clear hml
  have fin : ∀ wx, Below w.heap.size w wx → (Va.mk hk hnn hs l ks f ≠ Va.mk hk' hnn' hs' l' ks' f') → SameR (Va.mk hk hnn hs l ks f) (Va.mk hk' hnn' hs' l' ks' f') w (.returned (.bool false)) wx :=
    fun wx hb hne => ⟨false, rfl, ⟨fun h => absurd h (by decide), fun h => absurd h hne⟩, hb⟩
  have FIN := Lib.hid fin
  clear fin
  have hb0 : ∀ o1 o2, Below w.heap.size w ((w.alloc o1).alloc o2) := fun o1 o2 => ((Below.refl _ _).alloc (Nat.le_refl _) _).alloc (by simp) _
  have HB0 := Lib.hid hb0
  clear hb0
  have HE6 := Lib.hid e6
  have HE6' := Lib.hid e6'
  clear e6 e6'
  by_cases h1 : hk = hk'
  case neg =>
    go_enter Tryd.func13, Tryd.ntmps13
    go_wp2_with fail
    go_ret
    exact FIN.out _ (HB0.out _ _) (by intro e; injection e; contradiction)
  by_cases h2 : hnn = hnn'
  case neg =>
    go_enter Tryd.func13, Tryd.ntmps13
    go_wp2_with fail
    go_ret
    exact FIN.out _ (HB0.out _ _) (by intro e; injection e; contradiction)
  by_cases h3 : hs = hs'
  case neg =>
    have h3' := bytes_ne h3
    go_enter Tryd.func13, Tryd.ntmps13
    go_wp2_with fail
    go_ret
    exact FIN.out _ (HB0.out _ _) (by intro e; injection e; contradiction)
  by_cases h4 : l.length = l'.length
  case neg =>
    have h3' := bytes_eq h3
    go_enter Tryd.func13, Tryd.ntmps13
    go_wp2_with fail
    go_ret
    exact FIN.out _ (HB0.out _ _) (by intro e; injection e; subst_vars; contradiction)
  by_cases h5 : f.length = f'.length
  case neg =>
    have h3' := bytes_eq h3
    go_enter Tryd.func13, Tryd.ntmps13
    go_wp2_with fail
    go_ret
    exact FIN.out _ (HB0.out _ _) (by intro e; injection e; subst_vars; contradiction)
  subst h1 h2 h3
  rw [← h4, ← h5]
  have H4 := Lib.hid h4
  have H5 := Lib.hid h5
  rw [← h4] at b5' b7'
  rw [← h5] at b6' b8'
  clear h4 h5
  go_enter Tryd.func13, Tryd.ntmps13
  go_wp2_with fail
  go_loopw [5] (fun iv wr => ∃ (i : Nat), iv = .int .i64 i ∧ i ≤ l.length ∧ EqTo l l' i ∧ Below w.heap.size w wr ∧ Bx wr w.heap.size ⟨hk, hnn, hs, A, l.length, lc, F, f.length, fc⟩ ∧ Bx wr (w.heap.size + 1) ⟨hk, hnn, hs, A', l.length, lc', F', f.length, fc'⟩) (fun iv _ => l.length - (intOf iv).toNat)
  case atStart => exact ⟨0, rfl, Nat.zero_le _, by simp [EqTo], HB0.out _ _, (Bx.start w ⟨hk, hnn, hs, A, l.length, lc, F, f.length, fc⟩ 25).alloc _, Bx.start' _ ⟨hk, hnn, hs, A', l.length, lc', F', f.length, fc'⟩ 25 (by simp)⟩
  case round =>
    obtain ⟨i, rfl, hi, heq, hbel, hbx, hbx'⟩ := hrel
    have HQ := Lib.hid heq
    clear heq
    have cA := hbx.2 3 _ rfl
    have cA' := hbx'.2 3 _ rfl
    have cF := hbx.2 4 _ rfl
    have cF' := hbx'.2 4 _ rfl
    have HB := Lib.hid hbel
    have HX := Lib.hid hbx
    have HX' := Lib.hid hbx'
    clear hbx hbx' hbel
    by_cases hlt : i < l.length
    · have hlt' : i < l'.length := by have := H4.out; omega
      obtain ⟨ad, u, rfl, _, hbl, hLu, hcell⟩ := Hop.L i _ (List.getElem?_eq_getElem hlt)
      obtain ⟨k0, k1, k2, k3, k4⟩ := hcell.below HB.out hbl
      obtain ⟨ad', u', rfl, _, hbl', hLu', hcell'⟩ := Hop'.L i _ (List.getElem?_eq_getElem hlt')
      obtain ⟨q0, q1, q2, q3, q4⟩ := hcell'.below HB.out hbl'
      have hLv := Lib.hid (hLu.below HB.out (Nat.le_refl _))
      have hLv' := Lib.hid (hLu'.below HB.out (Nat.le_refl _))
      have ihx := Lib.hid (ihl l[i] (List.getElem_mem hlt) l'[i])
      have G1 := Lib.hid (List.getElem?_eq_getElem hlt)
      have G2 := Lib.hid (List.getElem?_eq_getElem hlt')
      clear hcell hLu hcell' hLu' ihl ihf
      go_wp2_with fail
      go_still_tail 10, (by kernel_rfl)
      change wpList _ _ _ _ _ wr.drew
      have hbd : Below wr.heap.size wr wr.drew := (Below.refl _ _).drew
      generalize wr.drew = w2 at hbd ⊢
      have HBD := Lib.hid hbd
      clear hbd
      go_wp2_with fail
      refine (ihx.out S S' u u' _ (hLv.out.below HBD.out (Nat.le_refl _)) (hLv'.out.below HBD.out (Nat.le_refl _))).mono ?_
      rintro e w3 ⟨r, rfl, hr, hb1⟩
      have hb3 : Below wr.heap.size wr w3 := HBD.out.trans (hb1.mono HBD.out.size)
      have HB3 := Lib.hid hb3
      have HR := Lib.hid hr
      have hsz := HX'.out.1
      clear hb3 hb1 hr
      cases r
      · go_wp2_with fail
        go_ret
        refine FIN.out _ (HB.out.trans (HB3.out.mono HB.out.size)) ?_
        intro e
        injection e with _ _ _ e4
        exact ne_at G1.out G2.out (fun h => by have := HR.out.2 h; cases this) e4
      · have hee : l[i] = l'[i] := HR.out.1 rfl
        have HQ2 := Lib.hid (HQ.out.step G1.out (hee ▸ G2.out))
        clear hee
        go_wp2_with fail
        refine ⟨⟨i + 1, by go_num, by omega, HQ2.out, HB.out.trans (HB3.out.mono HB.out.size), HX.out.go HB3.out (by omega), HX'.out.go HB3.out (by omega)⟩, by simp [intOf]; omega⟩
    · have hll : l = l' := HQ.out.all (by omega) (by have := H4.out; omega)
      have HLL := Lib.hid hll
      clear hll HQ ihl
      go_wp2_with fail
      go_loopw [6] (fun iv wr => ∃ (i : Nat), iv = .int .i64 i ∧ i ≤ f.length ∧ EqTo ks ks' i ∧ EqTo f f' i ∧ Below w.heap.size w wr ∧ Bx wr w.heap.size ⟨hk, hnn, hs, A, l.length, lc, F, f.length, fc⟩ ∧ Bx wr (w.heap.size + 1) ⟨hk, hnn, hs, A', l.length, lc', F', f.length, fc'⟩) (fun iv _ => f.length - (intOf iv).toNat)
      case atStart => exact ⟨0, rfl, Nat.zero_le _, by simp [EqTo], by simp [EqTo], HB.out, HX.out, HX'.out⟩
      case round =>
        clear HB HX HX'
        obtain ⟨i', rfl, hi', heqk, heq, hbel, hbx, hbx'⟩ := hrel
        have HQ := Lib.hid heq
        have HQK := Lib.hid heqk
        clear heq heqk
        have cF := hbx.2 4 _ rfl
        have cF' := hbx'.2 4 _ rfl
        have HB := Lib.hid hbel
        have HX := Lib.hid hbx
        have HX' := Lib.hid hbx'
        clear hbx hbx' hbel
        by_cases hlt : i' < f.length
        · have hlt' : i' < f'.length := by have := H5.out; omega
          obtain ⟨ad, u, key, rfl, _, hbl, hkey, _, hLu, hcell⟩ := Hop.K i' _ (List.getElem?_eq_getElem hlt)
          obtain ⟨k0, k1, k2, k3, k4, k5⟩ := hcell.below HB.out hbl
          obtain ⟨ad', u', key', rfl, _, hbl', hkey', _, hLu', hcell'⟩ := Hop'.K i' _ (List.getElem?_eq_getElem hlt')
          obtain ⟨q0, q1, q2, q3, q4, q5⟩ := hcell'.below HB.out hbl'
          have hLv := Lib.hid (hLu.below HB.out (Nat.le_refl _))
          have hLv' := Lib.hid (hLu'.below HB.out (Nat.le_refl _))
          have ihx := Lib.hid (ihf f[i'] (List.getElem_mem hlt) f'[i'])
          have G1 := Lib.hid (List.getElem?_eq_getElem hlt)
          have G2 := Lib.hid (List.getElem?_eq_getElem hlt')
          have GK := Lib.hid hkey
          have GK' := Lib.hid hkey'
          clear hcell hLu hcell' hLu' ihf hkey hkey'
          by_cases hkk : key = key'
          · have hkk' := bytes_eq hkk
            have HKK := Lib.hid hkk
            clear hkk
            go_wp2_with fail
            go_still_tail 26, (by kernel_rfl)
            change wpList _ _ _ _ _ wr.drew
            have hbd : Below wr.heap.size wr wr.drew := (Below.refl _ _).drew
            generalize wr.drew = w2 at hbd ⊢
            have HBD := Lib.hid hbd
            clear hbd
            go_wp2_with fail
            refine (ihx.out S S' u u' _ (hLv.out.below HBD.out (Nat.le_refl _)) (hLv'.out.below HBD.out (Nat.le_refl _))).mono ?_
            rintro e w3 ⟨r, rfl, hr, hb1⟩
            have hb3 : Below wr.heap.size wr w3 := HBD.out.trans (hb1.mono HBD.out.size)
            have HB3 := Lib.hid hb3
            have HR := Lib.hid hr
            have hsz := HX'.out.1
            clear hb3 hb1 hr
            cases r
            · go_wp2_with fail
              go_ret
              refine FIN.out _ (HB.out.trans (HB3.out.mono HB.out.size)) ?_
              intro e
              injection e with _ _ _ _ _ e6
              exact ne_at G1.out G2.out (fun h => by have := HR.out.2 h; cases this) e6
            · have hee : f[i'] = f'[i'] := HR.out.1 rfl
              have HQ2 := Lib.hid (HQ.out.step G1.out (hee ▸ G2.out))
              have HQK2 := Lib.hid (HQK.out.step GK.out (HKK.out ▸ GK'.out))
              clear hee
              go_wp2_with fail
              refine ⟨⟨i' + 1, by go_num, by omega, HQK2.out, HQ2.out, HB.out.trans (HB3.out.mono HB.out.size), HX.out.go HB3.out (by omega), HX'.out.go HB3.out (by omega)⟩, by simp [intOf]; omega⟩
          · have hkk' := bytes_ne hkk
            have hkk2 : (!(key.toList == key'.toList)) = true := by rw [hkk']; rfl
            have HNE := Lib.hid hkk
            clear hkk
            go_wp2_with fail
            go_quiet (fail)
            go_wp2_with fail
            go_ret
            refine FIN.out _ (below_drewN' HB.out _) ?_
            intro e
            injection e with _ _ _ _ e5 _
            exact ne_at GK.out GK'.out HNE.out e5
        · have hff : f = f' := HQ.out.all (by omega) (by have := H5.out; omega)
          have hkk : ks = ks' := HQK.out.all (by have := HE6.out; omega) (by have := HE6'.out; have := H5.out; omega)
          have HFF := Lib.hid hff
          have HKK := Lib.hid hkk
          clear hff hkk
          go_wp2_with fail
          go_ret
          exact ⟨true, rfl, ⟨fun _ => by rw [HLL.out, HFF.out, HKK.out], fun _ => rfl⟩, HB.out⟩
end Go.Proofs.YtbinmhcjadkmgaaDoor
