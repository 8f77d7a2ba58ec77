/- The reference's Count. -/
import Derived.Test.YtmdlcalnncncjaaTFew
set_option linter.unusedVariables false
set_option linter.unusedSimpArgs false
namespace Go.Proofs.Ytmdlcalnncncjaa
open Go.RowKit
theorem cntL_take_step {l : List Va} {i : Nat} {x : Va} (h : l[i]? = some x) : cntL (l.take (i + 1)) = cntL (l.take i) + x.cnt := by
  rw [take_next h, cntL_app]; simp [cntL]
theorem cntL_take_le (l : List Va) (i : Nat) : cntL (l.take i) ≤ cntL l := by
  have := cntL_app (l.take i) (l.drop i)
  rw [List.take_append_drop] at this
  omega
set_option maxHeartbeats 400000 in
set_option maxRecDepth 100000 in
theorem count_ref : ∀ (a : Va) (S : Nat → Prop) (h : Hd) (w : World), Lies w S a h → a.cnt ≤ 100000 → Calls Try.prog 20 #[h.val] w fun e w' => e = .returned (.int .i64 (a.cnt : Nat)) ∧ Below w.heap.size w w' := by
  intro a
  induction a using Va.ind with
  | h k nn s l ks f ihl ihf =>
  intro S h w H hcn
  have Hop := H.op
  simp only [Lies] at H
  obtain ⟨⟨e1, e2, e3, e4, e5, e6⟩, ⟨b1, b2, b3, b4, b5, b6, b7, b8⟩, _, _⟩ := H
  obtain ⟨hk, hnn, hs, A, la, lc, F, lf, fc⟩ := h
  simp only at e1 e2 e3 e4 e5 b7 b8
  subst e1 e2 e3
  unfold Hd.val
  have hml : maxLen ≤ 9223372036854775807 := by decide
  have b5' : l.length ≤ 9223372036854775807 := Nat.le_trans b5 hml
  have b6' : f.length ≤ 9223372036854775807 := Nat.le_trans b6 hml
  clear hml
  have HC := Lib.hid (show (Va.mk hk hnn hs l ks f).cnt = 1 + cntL l + cntL f by simp only [Va.cnt])
  have hcn' : 1 + cntL l + cntL f ≤ 100000 := HC.out ▸ hcn
  clear hcn
  go_enter Try.func20, Try.ntmps20
  go_wp2_with fail
  go_loopw [3, 4] (fun nv iv wr => ∃ (i : Nat) (m : Nat), nv = .int .i64 m ∧ iv = .int .i64 i ∧ i ≤ l.length ∧ m = 1 + cntL (l.take i) ∧ BoxAt w wr ⟨hk, hnn, hs, A, l.length, lc, F, f.length, fc⟩) (fun _ iv _ => l.length - (intOf iv).toNat)
  case atStart => exact ⟨0, 1, rfl, rfl, Nat.zero_le _, by simp [cntL], BoxAt.start w ⟨hk, hnn, hs, A, l.length, lc, F, f.length, fc⟩ 25⟩
  case round =>
    obtain ⟨i, m, rfl, rfl, hi, hm, hbx⟩ := hrel
    have hmle : m ≤ 1 + cntL l := by have := cntL_take_le l i; omega
    have HM := Lib.hid hm
    clear hm
    have cA := hbx.2.2 3 _ rfl
    have cF := hbx.2.2 4 _ rfl
    have HB := Lib.hid hbx
    clear hbx
    by_cases hlt : i < l.length
    · obtain ⟨ad, u, rfl, _, hbl, hLu, hcell⟩ := Hop.L i _ (List.getElem?_eq_getElem hlt)
      obtain ⟨k0, k1, k2, k3, k4⟩ := hcell.below HB.out.1 hbl
      have hLu' := Lib.hid (hLu.below HB.out.1 (Nat.le_refl _))
      have ihx := Lib.hid (ihl l[i] (List.getElem_mem hlt))
      have hxc : l[i].cnt ≤ cntL l := cntL_mem (List.getElem_mem hlt)
      have hst := Lib.hid (cntL_take_step (List.getElem?_eq_getElem hlt))
      have hle := cntL_take_le l (i + 1)
      rw [hst.out] at hle
      generalize hx : l[i] = x at *
      clear hcell hLu ihl ihf
      obtain ⟨xc, hxe⟩ : ∃ xc, xc = x.cnt := ⟨_, rfl⟩
      rw [← hxe] at hxc hle hst
      have HX := Lib.hid hxe
      clear hxe hx
      go_wp2_with fail
      refine (ihx.out S u _ hLu'.out (by have := HX.out; omega)).mono ?_
      rintro e w1 ⟨rfl, hb1⟩
      rw [← HX.out]
      have hsum : m + xc ≤ 100001 := by have := HM.out; omega
      go_wp2_with fail
      refine ⟨⟨i + 1, m + xc, by go_num, by go_num, by omega, by have := HM.out; have := hst.out; omega, HB.out.go hb1 (Nat.le_refl _)⟩, by simp [intOf]; omega⟩
    · have hrest : Hid (m = 1 + cntL l) := by have := HM.out; rw [List.take_of_length_le (by omega)] at this; exact this
      clear HM ihl
      go_wp2_with fail
      go_loopw [3, 5] (fun nv iv wr => ∃ (i : Nat) (m' : Nat), nv = .int .i64 m' ∧ iv = .int .i64 i ∧ i ≤ f.length ∧ m' = m + cntL (f.take i) ∧ BoxAt w wr ⟨hk, hnn, hs, A, l.length, lc, F, f.length, fc⟩) (fun _ iv _ => f.length - (intOf iv).toNat)
      case atStart => exact ⟨0, m, rfl, rfl, Nat.zero_le _, by simp [cntL], HB.out⟩
      case round =>
        obtain ⟨i', m', rfl, rfl, hi', hm', hbx⟩ := hrel
        have hmle' : m' ≤ m + cntL f := by have := cntL_take_le f i'; omega
        have HM' := Lib.hid hm'
        clear hm'
        have cF := hbx.2.2 4 _ rfl
        have HB' := Lib.hid hbx
        clear hbx
        by_cases hlt' : i' < f.length
        · obtain ⟨ad, u, key, rfl, _, hbl, hkey, hkl, hLu, hcell⟩ := Hop.K i' _ (List.getElem?_eq_getElem hlt')
          obtain ⟨k0, k1, k2, k3, k4, k5⟩ := hcell.below HB'.out.1 hbl
          have hLu' := Lib.hid (hLu.below HB'.out.1 (Nat.le_refl _))
          have ihx := Lib.hid (ihf f[i'] (List.getElem_mem hlt'))
          have hxc : f[i'].cnt ≤ cntL f := cntL_mem (List.getElem_mem hlt')
          have hst := Lib.hid (cntL_take_step (List.getElem?_eq_getElem hlt'))
          have hle := cntL_take_le f (i' + 1)
          rw [hst.out] at hle
          generalize hx : f[i'] = x at *
          clear hcell hLu ihf hkey
          obtain ⟨xc, hxe⟩ : ∃ xc, xc = x.cnt := ⟨_, rfl⟩
          rw [← hxe] at hxc hle hst
          have HX := Lib.hid hxe
          clear hxe hx
          go_wp2_with fail
          refine (ihx.out S u _ hLu'.out (by have := HX.out; omega)).mono ?_
          rintro e w1 ⟨rfl, hb1⟩
          rw [← HX.out]
          have hsum : m' + xc ≤ 200002 := by omega
          go_wp2_with fail
          exact ⟨⟨i' + 1, m' + xc, by go_num, by go_num, by omega, by have := HM'.out; have := hst.out; omega, HB'.out.go hb1 (Nat.le_refl _)⟩, by simp [intOf]; omega⟩
        · have hfin : Hid (m' = (Va.mk hk hnn hs l ks f).cnt) := by
            have h1 := HM'.out; rw [List.take_of_length_le (by omega)] at h1
            have h2 := hrest.out
            have h3 := HC.out
            show m' = _
            omega
          clear HM' HC hrest
          go_wp2_with fail
          go_ret
          exact ⟨by rw [hfin.out]; rfl, HB'.out.1⟩
end Go.Proofs.Ytmdlcalnncncjaa
