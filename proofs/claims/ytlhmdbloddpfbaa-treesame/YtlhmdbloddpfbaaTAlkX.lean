/- tree.sorted, walked. -/
import Derived.Test.YtlhmdbloddpfbaaTAlkW
import Derived.Test.YtlhmdbloddpfbaaTAnewB
set_option linter.unusedVariables false
set_option linter.unusedSimpArgs false
namespace Go.Proofs.Ytlhmdbloddpfbaa
open Go.RowKit
/-- Behind the first statements: the argument's box, the result's, the closure's variable. -/
structure Sd (w : World) (h : Hd) (wr : World) : Prop where
  bel : Below w.heap.size w wr
  box : Bx wr w.heap.size h
  res : wr.rowIs (w.heap.size + 1) 25 5 zeroRes
  clos : wr.cell? ⟨w.heap.size + 2, 0, none⟩ = some (closO (w.heap.size + 2))
  sz : w.heap.size + 3 ≤ wr.heap.size
theorem Sd.start (w : World) (h : Hd) : Sd w h (((w.alloc (Obj.cells #[.int .i64 h.k, .int .i64 h.n, .string h.s, .slice h.A h.la h.lc, .slice h.F h.lf h.fc] 25)).alloc (Obj.cells #[.int .i64 0, .int .i64 0, .string { data := #[] }, .slice none 0 0, .slice none 0 0] 25)).alloc (Obj.cells #[closO (w.heap.size + 2)] 49)) := by
  refine ⟨(((Below.refl _ _).alloc (Nat.le_refl _) _).alloc (by simp) _).alloc (by simp; omega) _, ((Bx.start w h 25).alloc _).alloc _, ?_, ?_, by simp⟩
  · refine hdAt_row (h := ⟨0, 0, ByteArray.empty, none, 0, 0, none, 0, 0⟩) ?_
    rw [Below.heap_alloc _ _ _ (by simp)]
    have h9 := heap_alloc_new (w.alloc (Obj.cells #[.int .i64 h.k, .int .i64 h.n, .string h.s, .slice h.A h.la h.lc, .slice h.F h.lf h.fc] 25)) (Obj.cells #[.int .i64 0, .int .i64 0, .string { data := #[] }, .slice none 0 0, .slice none 0 0] 25)
    rwa [World.size_alloc] at h9
  · rw [World.cell?_alloc_at _ _ _ _ (by simp)]
    rfl
theorem Sd.go {w wr w' : World} {h : Hd} (H : Sd w h wr) (hb : Below wr.heap.size wr w') : Sd w h w' := by
  have h1 := H.sz
  have h2 := hb.size
  exact ⟨H.bel.trans (hb.mono H.bel.size), H.box.go hb H.box.1, rowIs_below H.res hb (by omega), (hb.cell (p := ⟨w.heap.size + 2, 0, none⟩) (show w.heap.size + 2 < _ by omega)).trans H.clos, by omega⟩
theorem Sd.out {w wr w' : World} {h : Hd} {T : Nat → Prop} (H : Sd w h wr) (ho : OutK T wr w') (hT : ∀ b, T b → w.heap.size + 3 ≤ b) : Sd w h w' := by
  have h1 := H.sz
  have h2 := ho.size
  have hn : ∀ b, b < w.heap.size + 3 → ¬ T b := fun b hb q => by have := hT b q; omega
  refine ⟨H.bel.trans ⟨ho.os, ho.tape, ho.output, ho.size, fun k hk => ho.block k (by omega) (hn k (by omega))⟩, ⟨by have := H.box.1; omega, fun j c hc => ?_⟩, ?_, ?_, by omega⟩
  · exact (World.cell?_of_block (a := ⟨w.heap.size, j, none⟩) (ho.block w.heap.size H.box.1 (hn _ (by omega)))).trans (H.box.2 j c hc)
  · exact rowIs_below' (B := 0) H.res (ho.block _ (by omega) (hn _ (by omega)))
  · exact (World.cell?_of_block (a := ⟨w.heap.size + 2, 0, none⟩) (ho.block (w.heap.size + 2) (by omega) (hn _ (by omega)))).trans H.clos
set_option maxHeartbeats 2000000 in
set_option maxRecDepth 100000 in
theorem sorted_prog (hS : SortP) (a : Va) (S : Nat → Prop) (h : Hd) (w : World) (H : Lies w S a h) (hsh : a.Sh) (hcn : a.cnt ≤ 1000) (hR : ∃ d, a.R d) : Calls Try.prog 59 #[h.val] w fun e w' => NewR a.srt w e w' := by
  have HSD := Lib.hid (Sd.start w h)
  have HCAL := Lib.hid (anew_any a S h _ (H.below (Sd.start w h).bel (Nat.le_refl _)) hsh hcn)
  have HSO := Lib.hid hS
  have HR := Lib.hid hR
  clear H hsh hS hR
  unfold Hd.val at *
  go_enter Try.func59, Try.ntmps59
  go_wp2_with fail
  refine HCAL.out.mono ?_
  rintro e w1 ⟨h1, T, rfl, hown, hT, hb1⟩
  have hsz0 : w.heap.size + 3 ≤ (((w.alloc (Obj.cells #[.int .i64 h.k, .int .i64 h.n, .string h.s, .slice h.A h.la h.lc, .slice h.F h.lf h.fc] 25)).alloc (Obj.cells #[.int .i64 0, .int .i64 0, .string { data := #[] }, .slice none 0 0, .slice none 0 0] 25)).alloc (Obj.cells #[closO (w.heap.size + 2)] 49)).heap.size := HSD.out.sz
  have HS1 := Lib.hid (HSD.out.go hb1)
  have hbx := Bx.start w1 h1 25
  have hT3 : ∀ b, T b → w.heap.size + 3 ≤ b ∧ b < w1.heap.size := fun b q => ⟨Nat.le_trans hsz0 (hT b q).1, (hT b q).2⟩
  have HT3 := Lib.hid hT3
  have HS2 := Lib.hid (HS1.out.go (one_alloc w1 (Obj.cells #[.int .i64 h1.k, .int .i64 h1.n, .string h1.s, .slice h1.A h1.la h1.lc, .slice h1.F h1.lf h1.fc] 25)))
  have HO2 := Lib.hid (Own.keep _ _ _ hown (fun b q => Below.heap_alloc w1 (Obj.cells #[.int .i64 h1.k, .int .i64 h1.n, .string h1.s, .slice h1.A h1.la h1.lc, .slice h1.F h1.lf h1.fc] 25) _ (hT b q).2))
  have HBX := Lib.hid hbx
  have hcc := HS1.out.clos
  have hcw := HS1.out.sz
  have hC : w.heap.size + 2 < w1.heap.size := by omega
  clear hown hT hb1 hbx hT3 HCAL HSD hsz0
  go_wp2_with fail
  refine (order_any HSO.out a T h1 (w1.alloc (Obj.cells #[.int .i64 h1.k, .int .i64 h1.n, .string h1.s, .slice h1.A h1.la h1.lc, .slice h1.F h1.lf h1.fc] 25)) (w.heap.size + 2) HO2.out (fun b q => by have := (HT3.out b q).2; simp; omega) hcn HR.out HS2.out.clos (fun q => by have := (HT3.out _ q).1; omega)).mono ?_
  rintro e w3 ⟨rfl, hown3, ho3⟩
  have hs3 := ho3.size
  simp only [World.size_alloc] at hs3
  have hS3 := HS2.out.out ho3 (fun b q => (HT3.out b q).1)
  have HS3 := Lib.hid hS3
  have hbk : w3.heap[w1.heap.size]? = (w1.alloc (Obj.cells #[.int .i64 h1.k, .int .i64 h1.n, .string h1.s, .slice h1.A h1.la h1.lc, .slice h1.F h1.lf h1.fc] 25)).heap[w1.heap.size]? := ho3.block _ (by simp) (fun q => by have := (HT3.out _ q).2; omega)
  have y0 := (World.cell?_of_block (a := ⟨w1.heap.size, 0, none⟩) hbk).trans (HBX.out.2 0 _ rfl)
  have y1 := (World.cell?_of_block (a := ⟨w1.heap.size, 1, none⟩) hbk).trans (HBX.out.2 1 _ rfl)
  have y2 := (World.cell?_of_block (a := ⟨w1.heap.size, 2, none⟩) hbk).trans (HBX.out.2 2 _ rfl)
  have y3 := (World.cell?_of_block (a := ⟨w1.heap.size, 3, none⟩) hbk).trans (HBX.out.2 3 _ rfl)
  have y4 := (World.cell?_of_block (a := ⟨w1.heap.size, 4, none⟩) hbk).trans (HBX.out.2 4 _ rfl)
  have z0 := hS3.res.cell (show 0 < 5 by decide)
  have z1 := hS3.res.cell (show 1 < 5 by decide)
  have z2 := hS3.res.cell (show 2 < 5 by decide)
  have z3 := hS3.res.cell (show 3 < 5 by decide)
  have z4 := hS3.res.cell (show 4 < 5 by decide)
  have g0 := hS3.res.frozen 0
  have g1 := hS3.res.frozen 1
  have g2 := hS3.res.frozen 2
  have g3 := hS3.res.frozen 3
  have g4 := hS3.res.frozen 4
  have HO3 := Lib.hid hown3
  have HB3 := Lib.hid hS3.bel
  clear hown3 ho3 hS3 hbk hcc HS2 HO2 HS1
  simp only [zeroRes, hdAt, Hd.cells, List.getD_cons_succ, List.getD_cons_zero] at z0 z1 z2 z3 z4
  go_wp2_with fail
  refine bodyPost_ret (v := .agg #[.int .i64 h1.k, .int .i64 h1.n, .string h1.s, .slice h1.A h1.la h1.lc, .slice h1.F h1.lf h1.fc]) (by simp [results, Try.results59, go_sem, z0, z1, z2, z3, z4]) rfl ?_
  refine ⟨h1, T, rfl, Own.keep _ _ _ HO3.out (fun b q => res_set (w := w) b (by have := (HT3.out b q).1; omega)), fun b q => ?_, res_below HB3.out (Nat.le_succ _)⟩
  have := HT3.out b q
  exact ⟨by omega, by simp; omega⟩
end Go.Proofs.Ytlhmdbloddpfbaa
