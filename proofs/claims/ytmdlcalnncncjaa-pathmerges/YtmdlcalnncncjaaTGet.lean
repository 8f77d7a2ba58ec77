/- tree.Get, walked. -/
import Derived.Test.YtmdlcalnncncjaaTPlace
set_option linter.unusedVariables false
set_option linter.unusedSimpArgs false
namespace Go.Proofs.Ytmdlcalnncncjaa
open Go.RowKit
theorem object_prog (a : Va) (S : Nat → Prop) (h : Hd) (w : World) (H : Lies w S a h) (hsh : a.Sh) (hcn : a.cnt ≤ 1000) : Calls Try.prog 74 #[h.val] w fun e w' => YesNo (h.k = 5 ∧ a.R 12) w e w' := by
  have h1 := right_prog a S h (w.alloc (Obj.cells #[.int .i64 h.k, .int .i64 h.n, .string h.s, .slice h.A h.la h.lc, .slice h.F h.lf h.fc] 25)) (H.below ((Below.refl _ _).alloc (Nat.le_refl _) _) (Nat.le_refl _)) hsh hcn
  have H1 := Lib.hid h1
  clear h1 H hsh
  unfold Hd.val at *
  by_cases h5 : h.k = 5
  · have h5' : (h.k == 5) = true := by simpa using h5
    have H5 := Lib.hid h5
    clear h5
    go_enter Try.func74, Try.ntmps74
    go_wp2_with fail
    refine H1.out.mono ?_
    rintro e w1 ⟨r, rfl, hr, hb1⟩
    have HR := Lib.hid hr
    have HB := Lib.hid (after_alloc hb1).1
    clear hr hb1 H1
    go_wp2_with fail
    go_ret
    exact ⟨r, rfl, ⟨fun h => ⟨H5.out, HR.out.1 h⟩, fun h => HR.out.2 h.2⟩, HB.out⟩
  · have h5' := beq_no h5
    have H5 := Lib.hid h5
    clear h5
    go_enter Try.func74, Try.ntmps74
    go_wp2_with fail
    go_ret
    exact YesNo.no (fun h => H5.out h.1) ((Below.refl _ _).alloc (Nat.le_refl _) _)
theorem own_res {a : Va} {w wr w2 : World} {R : Nat} {h' : Hd} {T : Nat → Prop} (hown : Own w2 a T h') (hT : ∀ b, T b → wr.heap.size ≤ b ∧ b < w2.heap.size) (hw : w.heap.size ≤ R) (hR : R < wr.heap.size) :
    Own (((((w2.setCell ⟨R, 0, none⟩ (.int .i64 h'.k)).setCell ⟨R, 1, none⟩ (.int .i64 h'.n)).setCell ⟨R, 2, none⟩ (.string h'.s)).setCell ⟨R, 3, none⟩ (.slice h'.A h'.la h'.lc)).setCell ⟨R, 4, none⟩ (.slice h'.F h'.lf h'.fc)) a T h' ∧
    ∀ b, T b → w.heap.size ≤ b ∧ b < (((((w2.setCell ⟨R, 0, none⟩ (.int .i64 h'.k)).setCell ⟨R, 1, none⟩ (.int .i64 h'.n)).setCell ⟨R, 2, none⟩ (.string h'.s)).setCell ⟨R, 3, none⟩ (.slice h'.A h'.la h'.lc)).setCell ⟨R, 4, none⟩ (.slice h'.F h'.lf h'.fc)).heap.size :=
  ⟨Own.keep _ _ _ hown (fun b hb => res_set (w := w) b (by have := hT b hb; omega)), fun b hb => ⟨by have := hT b hb; omega, by simp; exact (hT b hb).2⟩⟩
/-- What Get answers. -/
def GetR (a : Va) (ks : List ByteArray) (f : List Va) (key : ByteArray) (w : World) (e : Ending) (w' : World) : Prop := ∃ b h' T ok, e = .returned (.tuple #[.agg #[.int .i64 h'.k, .int .i64 h'.n, .string h'.s, .slice h'.A h'.la h'.lc, .slice h'.F h'.lf h'.fc], .bool ok]) ∧ Own w' b T h' ∧ (∀ x, T x → w.heap.size ≤ x ∧ x < w'.heap.size) ∧ Below w.heap.size w w' ∧
  (ok = true → a.R 12 ∧ ∃ i : Nat, PlaceP ks key i ∧ f[i]? = some b) ∧ (ok = false → b = zeroVa ∧ (a.R 12 → key ∉ ks))
theorem R_keys {k n : Int} {s : ByteArray} {l : List Va} {ks : List ByteArray} {f : List Va} {key : ByteArray} (h : (Va.mk k n s l ks f).R 12) (hk : ¬ k = 5) (hl : ks.length = f.length) : key ∉ ks := by
  simp only [Va.R] at h
  have := h.2.1.c4
  have : f.length = 0 := by
    rcases Nat.eq_zero_or_pos f.length with h0 | h0
    · exact h0
    · exact absurd ⟨hk, h0⟩ this
  have : ks = [] := List.length_eq_zero_iff.1 (by omega)
  rw [this]
  simp
set_option maxHeartbeats 1000000 in
theorem get_prog (k n : Int) (s : ByteArray) (l : List Va) (ks : List ByteArray) (f : List Va) (S : Nat → Prop) (h : Hd) (key : ByteArray) (w : World) (H : Lies w S (.mk k n s l ks f) h) (hsh : (Va.mk k n s l ks f).Sh) (hcn : (Va.mk k n s l ks f).cnt ≤ 1000) :
    Calls Try.prog 29 #[h.val, .string key] w fun e w' => GetR (.mk k n s l ks f) ks f key w e w' := by
  have Hop := Lib.hid H.op
  have HH := Lib.hid H
  have hsh2 := hsh
  simp only [Va.Sh] at hsh2
  have hcn2 := hcn
  simp only [Va.cnt] at hcn2
  have HSF := Lib.hid hsh2.2.2.2
  clear hsh2
  have hfl := len_le_cntL f
  simp only [Lies] at H
  obtain ⟨⟨e1, e2, e3, e4, e5, e6⟩, -, -, -⟩ := H
  have E1 := Lib.hid e1
  have E5 := Lib.hid e5
  have E6 := Lib.hid e6
  have hb0 : Below w.heap.size w ((w.alloc (Obj.cells #[.int .i64 h.k, .int .i64 h.n, .string h.s, .slice h.A h.la h.lc, .slice h.F h.lf h.fc] 25)).alloc (Obj.cells #[.int .i64 0, .int .i64 0, .string { data := #[] }, .slice none 0 0, .slice none 0 0] 25)) := ((Below.refl _ _).alloc (Nat.le_refl _) _).alloc (by simp) _
  have hob := object_prog (.mk k n s l ks f) S h ((w.alloc (Obj.cells #[.int .i64 h.k, .int .i64 h.n, .string h.s, .slice h.A h.la h.lc, .slice h.F h.lf h.fc] 25)).alloc (Obj.cells #[.int .i64 0, .int .i64 0, .string { data := #[] }, .slice none 0 0, .slice none 0 0] 25)) (HH.out.below hb0 (Nat.le_refl _)) hsh hcn
  have HOB := Lib.hid hob
  have HSH := Lib.hid hsh
  clear hob hb0 e1 e2 e3 e4 e5 e6 hsh
  generalize hca : Va.cnt (.mk k n s l ks f) = ca at hcn
  have HCA := Lib.hid hca
  clear hca
  unfold Hd.val at *
  go_enter Try.func29, Try.ntmps29
  go_wp2_with fail
  refine HOB.out.mono ?_
  rintro e w1 ⟨r, rfl, hr, hb1⟩
  obtain ⟨hb2, hbx, hres, hsz⟩ := two_blocks hb1
  have HB2 := Lib.hid hb2
  have HRS := Lib.hid hres
  have HR := Lib.hid hr
  have HX := Lib.hid hbx
  clear hb1 hb2 hres hr HOB
  cases r
  · clear hbx
    have z0 := HRS.out.cell (show 0 < 5 by decide)
    have z1 := HRS.out.cell (show 1 < 5 by decide)
    have z2 := HRS.out.cell (show 2 < 5 by decide)
    have z3 := HRS.out.cell (show 3 < 5 by decide)
    have z4 := HRS.out.cell (show 4 < 5 by decide)
    have g0 := HRS.out.frozen 0
    have g1 := HRS.out.frozen 1
    have g2 := HRS.out.frozen 2
    have g3 := HRS.out.frozen 3
    have g4 := HRS.out.frozen 4
    simp only [hdAt, Hd.cells, List.getD_cons_succ, List.getD_cons_zero] at z0 z1 z2 z3 z4
    go_wp2_with fail
    refine bodyPost_ret (v := .tuple #[.agg #[.int .i64 0, .int .i64 0, .string ByteArray.empty, .slice none 0 0, .slice none 0 0], .bool false]) (by simp [results, Try.results29, go_sem, z0, z1, z2, z3, z4]; try rfl) rfl ?_
    refine ⟨zeroVa, zeroHd, _, false, rfl, own_zero _, fun _ h => h.elim, res_below HB2.out (Nat.le_succ _), fun h => (by cases h), fun _ => ⟨rfl, fun hR => ?_⟩⟩
    exact R_keys hR (fun h5 => by have := HR.out.2 ⟨E1.out.trans h5, hR⟩; cases this) E6.out
  · have HY := Lib.hid (HR.out.1 rfl)
    clear HR
    have q0 := hbx.2 0 _ rfl
    have q1 := hbx.2 1 _ rfl
    have q2 := hbx.2 2 _ rfl
    have q3 := hbx.2 3 _ rfl
    have q4 := hbx.2 4 _ rfl
    clear hbx
    go_wp2_with fail
    refine (place_any ks key h w1 (E5.out.trans E6.out.symm) (by have := E6.out; omega) ((Hop.out.keys E6.out).below HB2.out (Nat.le_refl _))).mono ?_
    rintro e w2 ⟨m, rfl, hp, hb3⟩
    have HP := Lib.hid hp
    have HB3 := Lib.hid (HB2.out.trans (hb3.mono HB2.out.size))
    have HRS2 := Lib.hid (rowIs_below HRS.out hb3 (by omega))
    have hbx2 := HX.out.go hb3 HX.out.1
    have hs3 := hb3.size
    clear hp hb3 q0 q1 q2 q3 q4 HRS
    rcases HP.out.ge with hm | hm
    · subst hm
      have hno : Hid (key ∉ ks) := by
        rcases HP.out with ⟨_, h⟩ | ⟨i, h, _⟩
        · exact h
        · exact absurd h (by omega)
      clear hbx2
      have z0 := HRS2.out.cell (show 0 < 5 by decide)
      have z1 := HRS2.out.cell (show 1 < 5 by decide)
      have z2 := HRS2.out.cell (show 2 < 5 by decide)
      have z3 := HRS2.out.cell (show 3 < 5 by decide)
      have z4 := HRS2.out.cell (show 4 < 5 by decide)
      have g0 := HRS2.out.frozen 0
      have g1 := HRS2.out.frozen 1
      have g2 := HRS2.out.frozen 2
      have g3 := HRS2.out.frozen 3
      have g4 := HRS2.out.frozen 4
      simp only [hdAt, Hd.cells, List.getD_cons_succ, List.getD_cons_zero] at z0 z1 z2 z3 z4
      go_wp2_with fail
      refine bodyPost_ret (v := .tuple #[.agg #[.int .i64 0, .int .i64 0, .string ByteArray.empty, .slice none 0 0, .slice none 0 0], .bool false]) (by simp [results, Try.results29, go_sem, z0, z1, z2, z3, z4]; try rfl) rfl ?_
      exact ⟨zeroVa, zeroHd, _, false, rfl, own_zero _, fun _ h => h.elim, res_below HB3.out (Nat.le_succ _), fun h => (by cases h), fun _ => ⟨rfl, fun _ => hno.out⟩⟩
    · obtain ⟨i, hi⟩ : ∃ i : Nat, m = (i : Int) := ⟨m.toNat, by omega⟩
      subst hi
      have hki : ks[i]? = some key := by
        rcases HP.out with ⟨h, _⟩ | ⟨j, h, h1, _⟩
        · exact absurd h (by omega)
        · rw [show i = j by omega]; exact h1
      have hil : i < f.length := by have := (List.getElem?_eq_some_iff.1 hki).1; have := E6.out; omega
      obtain ⟨ad, u, key', hF, _, hbl, hkey', _, hLu, hcell⟩ := Hop.out.K i _ (List.getElem?_eq_getElem hil)
      have G1 := Lib.hid (List.getElem?_eq_getElem hil)
      obtain ⟨k0, k1, k2, k3, k4, k5⟩ := hcell.below HB3.out hbl
      have HLu := Lib.hid (hLu.below HB3.out (Nat.le_refl _))
      have hcF := hbx2.2 4 _ rfl
      rw [hF] at hcF
      have hlf : h.lf = f.length := E5.out
      rw [hlf] at hcF
      have hif : (i : Int) < (f.length : Int) := by omega
      have hshx := Lib.hid (ShL_mem HSF.out (List.getElem_mem hil))
      have hcx := Lib.hid (show f[i].cnt ≤ 1000 by have := cntL_mem (List.getElem_mem hil); omega)
      clear hbx2 hcell hLu hkey' hki hF hlf
      go_wp2_with fail
      refine (anew_any f[i] S u w2 HLu.out hshx.out hcx.out).mono ?_
      rintro e w3 ⟨h', T, rfl, hown, hT, hb4⟩
      have HRS3 := Lib.hid (rowIs_below HRS2.out hb4 (by omega))
      have HO := Lib.hid hown
      have HT := Lib.hid hT
      have HB4 := Lib.hid hb4
      clear hown hT hb4 k0 k1 k2 k3 k4 k5 hcF HRS2
      have z0 := HRS3.out.cell (show 0 < 5 by decide)
      have z1 := HRS3.out.cell (show 1 < 5 by decide)
      have z2 := HRS3.out.cell (show 2 < 5 by decide)
      have z3 := HRS3.out.cell (show 3 < 5 by decide)
      have z4 := HRS3.out.cell (show 4 < 5 by decide)
      have g0 := HRS3.out.frozen 0
      have g1 := HRS3.out.frozen 1
      have g2 := HRS3.out.frozen 2
      have g3 := HRS3.out.frozen 3
      have g4 := HRS3.out.frozen 4
      simp only [hdAt, Hd.cells, List.getD_cons_succ, List.getD_cons_zero] at z0 z1 z2 z3 z4
      go_wp2_with fail
      refine bodyPost_ret (v := .tuple #[.agg #[.int .i64 h'.k, .int .i64 h'.n, .string h'.s, .slice h'.A h'.la h'.lc, .slice h'.F h'.lf h'.fc], .bool true]) (by simp [results, Try.results29, go_sem, z0, z1, z2, z3, z4]) rfl ?_
      obtain ⟨h2, h3⟩ := own_res (w := w) (R := w.heap.size + 1) HO.out HT.out (Nat.le_succ _) (by omega)
      exact ⟨f[i], h', T, true, rfl, h2, h3, res_below (HB3.out.trans (HB4.out.mono HB3.out.size)) (Nat.le_succ _), fun _ => ⟨HY.out.2, i, HP.out, G1.out⟩, fun h => (by cases h)⟩
end Go.Proofs.Ytmdlcalnncncjaa
