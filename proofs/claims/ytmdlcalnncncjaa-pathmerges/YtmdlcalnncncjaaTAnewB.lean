/- tree.anew and tree.Clone. -/
import Derived.Test.YtmdlcalnncncjaaTAnew
set_option linter.unusedVariables false
set_option linter.unusedSimpArgs false
namespace Go.Proofs.Ytmdlcalnncncjaa
open Go.RowKit
/-- A struct's result cell, still zero. -/
abbrev zeroRes : Nat → Value := hdAt ⟨0, 0, ByteArray.empty, none, 0, 0, none, 0, 0⟩
theorem res_set {w wr : World} {R : Nat} {hk hnn : Int} {hs : ByteArray} {A F : Option Addr} {la lc lf fc : Nat} : ∀ b, b ≠ R → (((((wr.setCell ⟨R, 0, none⟩ (.int .i64 hk)).setCell ⟨R, 1, none⟩ (.int .i64 hnn)).setCell ⟨R, 2, none⟩ (.string hs)).setCell ⟨R, 3, none⟩ (.slice A la lc)).setCell ⟨R, 4, none⟩ (.slice F lf fc)).heap[b]? = wr.heap[b]? := fun b hb => by
  rw [Below.heap_setCell _ _ _ _ hb, Below.heap_setCell _ _ _ _ hb, Below.heap_setCell _ _ _ _ hb, Below.heap_setCell _ _ _ _ hb, Below.heap_setCell _ _ _ _ hb]
theorem res_below {B : Nat} {w wr : World} {R : Nat} {hk hnn : Int} {hs : ByteArray} {A F : Option Addr} {la lc lf fc : Nat} (h : Below B w wr) (hR : B ≤ R) : Below B w (((((wr.setCell ⟨R, 0, none⟩ (.int .i64 hk)).setCell ⟨R, 1, none⟩ (.int .i64 hnn)).setCell ⟨R, 2, none⟩ (.string hs)).setCell ⟨R, 3, none⟩ (.slice A la lc)).setCell ⟨R, 4, none⟩ (.slice F lf fc)) :=
  ((((h.setCell hR _).setCell hR _).setCell hR _).setCell hR _).setCell hR _
theorem NewR.res {a : Va} {w wr w2 : World} {R : Nat} {h' : Hd} {T : Nat → Prop} (hown : Own w2 a T h') (hT : ∀ b, T b → wr.heap.size ≤ b ∧ b < w2.heap.size) (hb : Below w.heap.size w w2) (hw : w.heap.size ≤ R) (hR : R < wr.heap.size) :
    NewR a w (.returned (.agg #[.int .i64 h'.k, .int .i64 h'.n, .string h'.s, .slice h'.A h'.la h'.lc, .slice h'.F h'.lf h'.fc])) (((((w2.setCell ⟨R, 0, none⟩ (.int .i64 h'.k)).setCell ⟨R, 1, none⟩ (.int .i64 h'.n)).setCell ⟨R, 2, none⟩ (.string h'.s)).setCell ⟨R, 3, none⟩ (.slice h'.A h'.la h'.lc)).setCell ⟨R, 4, none⟩ (.slice h'.F h'.lf h'.fc)) :=
  ⟨h', T, rfl, Own.keep _ _ _ hown (fun b hb => res_set (w := w) b (by have := hT b hb; omega)), fun b hb => ⟨by have := hT b hb; omega, by simp; exact (hT b hb).2⟩, res_below hb hw⟩
theorem anew_any (a : Va) (S : Nat → Prop) (h : Hd) (w : World) : Lies w S a h → a.Sh → a.cnt ≤ 1000 → Calls Try.prog 65 #[h.val] w fun e w' => NewR a w e w' := by
  intro H hsh hcn
  have hb0 : Below w.heap.size w (((w.alloc (Obj.cells #[.int .i64 h.k, .int .i64 h.n, .string h.s, .slice h.A h.la h.lc, .slice h.F h.lf h.fc] 25)).alloc (Obj.cells #[.int .i64 0, .int .i64 0, .string { data := #[] }, .slice none 0 0, .slice none 0 0] 25)).alloc (Obj.cells #[closA (w.heap.size + 2)] 30)) := (((Below.refl _ _).alloc (Nat.le_refl _) _).alloc (by simp) _).alloc (by simp; omega) _
  have hcal := anew1_any a S h _ (w.heap.size + 2) (H.below hb0 (Nat.le_refl _)) hsh hcn (by rw [World.cell?_alloc_at _ _ _ _ (by simp)]; rfl)
  have HCAL := Lib.hid hcal
  have HB0 := Lib.hid hb0
  clear hb0 hcal H hsh
  unfold Hd.val at *
  go_enter Try.func65, Try.ntmps65
  go_wp2_with fail
  refine HCAL.out.mono ?_
  rintro e w2 ⟨h', T, rfl, hown, hT, hb2⟩
  have hres := rowIs_below (hdAt_row (h := ⟨0, 0, ByteArray.empty, none, 0, 0, none, 0, 0⟩) (w := ((w.alloc (Obj.cells #[.int .i64 h.k, .int .i64 h.n, .string h.s, .slice h.A h.la h.lc, .slice h.F h.lf h.fc] 25)).alloc (Obj.cells #[.int .i64 0, .int .i64 0, .string { data := #[] }, .slice none 0 0, .slice none 0 0] 25)).alloc (Obj.cells #[closA (w.heap.size + 2)] 30)) (N := w.heap.size + 1) (by
      rw [Below.heap_alloc _ _ _ (by simp)]
      have h9 := heap_alloc_new (w.alloc (Obj.cells #[.int .i64 h.k, .int .i64 h.n, .string h.s, .slice h.A h.la h.lc, .slice h.F h.lf h.fc] 25)) (Obj.cells #[.int .i64 0, .int .i64 0, .string { data := #[] }, .slice none 0 0, .slice none 0 0] 25)
      rwa [World.size_alloc] at h9)) hb2 (by simp)
  have z0 := hres.cell (show 0 < 5 by decide)
  have z1 := hres.cell (show 1 < 5 by decide)
  have z2 := hres.cell (show 2 < 5 by decide)
  have z3 := hres.cell (show 3 < 5 by decide)
  have z4 := hres.cell (show 4 < 5 by decide)
  have g0 := hres.frozen 0
  have g1 := hres.frozen 1
  have g2 := hres.frozen 2
  have g3 := hres.frozen 3
  have g4 := hres.frozen 4
  have HO := Lib.hid hown
  have HT := Lib.hid hT
  have HB2 := Lib.hid hb2
  clear hown hT hb2 hres HCAL
  simp only [hdAt, Hd.cells, List.getD_cons_succ, List.getD_cons_zero] at z0 z1 z2 z3 z4
  go_wp2_with fail
  refine bodyPost_ret (v := .agg #[.int .i64 h'.k, .int .i64 h'.n, .string h'.s, .slice h'.A h'.la h'.lc, .slice h'.F h'.lf h'.fc]) (by simp [results, Try.results65, go_sem, z0, z1, z2, z3, z4]) rfl ?_
  exact NewR.res HO.out HT.out (HB0.out.trans (HB2.out.mono HB0.out.size)) (Nat.le_succ _) (by simp)
abbrev zeroVa : Va := .mk 0 0 ByteArray.empty [] [] []
abbrev zeroHd : Hd := ⟨0, 0, ByteArray.empty, none, 0, 0, none, 0, 0⟩
theorem own_zero (w : World) : Own w zeroVa (fun _ => False) zeroHd :=
  Own.mk [] [] (fun _ _ => False) (fun _ _ => False) ⟨⟨rfl, rfl, rfl, rfl, rfl, rfl⟩, by decide, by decide, by decide, by simp, by decide, by decide, by decide, by decide⟩ rfl rfl (World.ownsRow_nil _ _ _ _) (World.ownsRow_nil _ _ _ _)
    (fun i x u h => by simp at h) (fun i x u h => by simp at h) (fun g h => by simp [Value.ownBlock] at h) (fun g h => by simp [Value.ownBlock] at h) (fun _ _ h => h.elim) (fun _ _ h => h.elim) (fun _ _ _ h => h.elim) (fun _ _ _ h => h.elim) (fun _ _ _ h => h.elim)
/-- What Clone answers. -/
def CloneR (a : Va) (w : World) (e : Ending) (w' : World) : Prop := ∃ b h' T, e = .returned (.agg #[.int .i64 h'.k, .int .i64 h'.n, .string h'.s, .slice h'.A h'.la h'.lc, .slice h'.F h'.lf h'.fc]) ∧ Own w' b T h' ∧ (∀ x, T x → w.heap.size ≤ x ∧ x < w'.heap.size) ∧ Below w.heap.size w w' ∧ (a.R 12 → b = a) ∧ (¬ a.R 12 → b = zeroVa)
/-- Two blocks: the argument's, and the result's. -/
theorem two_blocks {w w1 : World} {h : Hd} (hb : Below ((w.alloc (Obj.cells #[.int .i64 h.k, .int .i64 h.n, .string h.s, .slice h.A h.la h.lc, .slice h.F h.lf h.fc] 25)).alloc (Obj.cells #[.int .i64 0, .int .i64 0, .string { data := #[] }, .slice none 0 0, .slice none 0 0] 25)).heap.size ((w.alloc (Obj.cells #[.int .i64 h.k, .int .i64 h.n, .string h.s, .slice h.A h.la h.lc, .slice h.F h.lf h.fc] 25)).alloc (Obj.cells #[.int .i64 0, .int .i64 0, .string { data := #[] }, .slice none 0 0, .slice none 0 0] 25)) w1) :
    Below w.heap.size w w1 ∧ Bx w1 w.heap.size h ∧ w1.rowIs (w.heap.size + 1) 25 5 zeroRes ∧ w.heap.size + 2 ≤ w1.heap.size := by
  have h0 : Below w.heap.size w ((w.alloc (Obj.cells #[.int .i64 h.k, .int .i64 h.n, .string h.s, .slice h.A h.la h.lc, .slice h.F h.lf h.fc] 25)).alloc (Obj.cells #[.int .i64 0, .int .i64 0, .string { data := #[] }, .slice none 0 0, .slice none 0 0] 25)) := ((Below.refl _ _).alloc (Nat.le_refl _) _).alloc (by simp) _
  have hs := hb.size
  refine ⟨h0.trans (hb.mono (by simp; omega)), ((Bx.start w h 25).alloc _).go hb (by simp; omega), rowIs_below (hdAt_row (h := zeroHd) ?_) hb (by simp), by simp at hs; omega⟩
  have h9 := heap_alloc_new (w.alloc (Obj.cells #[.int .i64 h.k, .int .i64 h.n, .string h.s, .slice h.A h.la h.lc, .slice h.F h.lf h.fc] 25)) (Obj.cells #[.int .i64 0, .int .i64 0, .string { data := #[] }, .slice none 0 0, .slice none 0 0] 25)
  rwa [World.size_alloc] at h9
set_option maxHeartbeats 1000000 in
theorem clone_prog (a : Va) (S : Nat → Prop) (h : Hd) (w : World) : Lies w S a h → a.Sh → a.cnt ≤ 1000 → Calls Try.prog 21 #[h.val] w fun e w' => CloneR a w e w' := by
  intro H hsh hcn
  have HH := Lib.hid H
  have HS := Lib.hid hsh
  clear H hsh
  have hpr := right_prog a S h ((w.alloc (Obj.cells #[.int .i64 h.k, .int .i64 h.n, .string h.s, .slice h.A h.la h.lc, .slice h.F h.lf h.fc] 25)).alloc (Obj.cells #[.int .i64 0, .int .i64 0, .string { data := #[] }, .slice none 0 0, .slice none 0 0] 25)) (HH.out.below (((Below.refl w.heap.size w).alloc (Nat.le_refl _) _).alloc (by simp) _) (Nat.le_refl _)) HS.out hcn
  have HPR := Lib.hid hpr
  clear hpr
  unfold Hd.val at *
  go_enter Try.func21, Try.ntmps21
  go_wp2_with fail
  refine HPR.out.mono ?_
  rintro e w1 ⟨r, rfl, hr, hb1⟩
  obtain ⟨hb2, hbx, hres, hsz⟩ := two_blocks hb1
  have HB2 := Lib.hid hb2
  have HRS := Lib.hid hres
  have HR := Lib.hid hr
  have q0 := hbx.2 0 _ rfl
  have q1 := hbx.2 1 _ rfl
  have q2 := hbx.2 2 _ rfl
  have q3 := hbx.2 3 _ rfl
  have q4 := hbx.2 4 _ rfl
  clear hb1 hb2 hres hr hbx HPR
  cases r
  · have z0 := HRS.out.cell (show 0 < 5 by decide)
    have z1 := HRS.out.cell (show 1 < 5 by decide)
    have z2 := HRS.out.cell (show 2 < 5 by decide)
    have z3 := HRS.out.cell (show 3 < 5 by decide)
    have z4 := HRS.out.cell (show 4 < 5 by decide)
    have g0 := HRS.out.frozen 0
    have g1 := HRS.out.frozen 1
    have g2 := HRS.out.frozen 2
    have g3 := HRS.out.frozen 3
    have g4 := HRS.out.frozen 4
    simp only [hdAt, Hd.cells, List.getD_cons_succ, List.getD_cons_zero] at z0 z1 z2 z3 z4
    go_wp2_with fail
    refine bodyPost_ret (v := .agg #[.int .i64 0, .int .i64 0, .string ByteArray.empty, .slice none 0 0, .slice none 0 0]) (by simp [results, Try.results21, go_sem, z0, z1, z2, z3, z4]; try rfl) rfl ?_
    exact ⟨zeroVa, zeroHd, _, rfl, own_zero _, fun _ h => h.elim, res_below HB2.out (Nat.le_succ _), fun h => absurd (HR.out.2 h) (by decide), fun _ => rfl⟩
  · have HT := Lib.hid (HR.out.1 rfl)
    clear HR
    go_wp2_with fail
    refine (anew_any a S h w1 (HH.out.below HB2.out (Nat.le_refl _)) HS.out hcn).mono ?_
    rintro e w2 ⟨h', T, rfl, hown, hT2, hb3⟩
    have hres2 := rowIs_below HRS.out hb3 (by omega)
    have z0 := hres2.cell (show 0 < 5 by decide)
    have z1 := hres2.cell (show 1 < 5 by decide)
    have z2 := hres2.cell (show 2 < 5 by decide)
    have z3 := hres2.cell (show 3 < 5 by decide)
    have z4 := hres2.cell (show 4 < 5 by decide)
    have g0 := hres2.frozen 0
    have g1 := hres2.frozen 1
    have g2 := hres2.frozen 2
    have g3 := hres2.frozen 3
    have g4 := hres2.frozen 4
    simp only [hdAt, Hd.cells, List.getD_cons_succ, List.getD_cons_zero] at z0 z1 z2 z3 z4
    have HO := Lib.hid hown
    have HT2 := Lib.hid hT2
    have HB3 := Lib.hid hb3
    clear hown hT2 hb3 hres2 q0 q1 q2 q3 q4
    go_wp2_with fail
    refine bodyPost_ret (v := .agg #[.int .i64 h'.k, .int .i64 h'.n, .string h'.s, .slice h'.A h'.la h'.lc, .slice h'.F h'.lf h'.fc]) (by simp [results, Try.results21, go_sem, z0, z1, z2, z3, z4]) rfl ?_
    obtain ⟨hh, TT, h1, h2, h3, h4⟩ := NewR.res (R := w.heap.size + 1) HO.out HT2.out (HB2.out.trans (HB3.out.mono HB2.out.size)) (Nat.le_succ _) (by omega)
    exact ⟨a, hh, TT, h1, h2, h3, h4, fun _ => rfl, fun h => absurd HT.out h⟩
end Go.Proofs.Ytmdlcalnncncjaa
