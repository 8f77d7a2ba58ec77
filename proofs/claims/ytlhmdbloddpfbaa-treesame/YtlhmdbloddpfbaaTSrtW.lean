/- The reference's Sorted, walked. -/
import Derived.Test.YtlhmdbloddpfbaaTSrtM
set_option linter.unusedVariables false
set_option linter.unusedSimpArgs false
namespace Go.Proofs.Ytlhmdbloddpfbaa
open Go.RowKit
set_option maxHeartbeats 10000000 in
set_option maxRecDepth 100000 in
theorem sorted_any (a : Va) : ∀ (S : Nat → Prop) (h : Hd) (w : World), Lies w S a h → a.cnt ≤ 1000 → Calls Try.prog 25 #[h.val] w fun e w' => SrtR a w e w' := by
  induction a using Va.ind with
  | h k n s l ks f ihl ihf =>
    intro S h w H hcn
    have H0 : Lies w (fun b => b < w.heap.size) (.mk k n s l ks f) h := Lies.keep (fun p _ _ => rfl) (fun b _ hb => hb) _ _ H
    have Hop := H0.op
    simp only [Va.cnt] at hcn
    have hll : l.length ≤ 1000 := by have := len_le_cntL l; omega
    have hfl : f.length ≤ 1000 := by have := len_le_cntL f; omega
    simp only [Lies] at H
    obtain ⟨⟨e1, e2, e3, e4, e5, e6⟩, -, -, -⟩ := H
    obtain ⟨hk, hnn, hs, A, la, lc, F, lf, fc⟩ := h
    simp only at e1 e2 e3 e4 e5
    subst e1 e2 e3 e4 e5
    have HOP := Lib.hid Hop
    have HL0 := Lib.hid H0
    have E6 := Lib.hid e6
    clear H0 Hop e6
    unfold Hd.val at *
    go_enter Try.func25, Try.ntmps25
    go_wp2_with fail
    have hA : AfterR w ⟨hk, hnn, hs, A, l.length, lc, F, f.length, fc⟩ (w.heap.size + 1 + 1) (((w.alloc (Obj.cells #[.int .i64 hk, .int .i64 hnn, .string hs, .slice A l.length lc, .slice F f.length fc] 25)).alloc (Obj.cells #[.int .i64 0, .int .i64 0, .string { data := #[] }, .slice none 0 0, .slice none 0 0] 25)).alloc (Obj.cells #[.int .i64 hk, .int .i64 hnn, .string hs, .slice none 0 0, .slice none 0 0] 25)) := by
      have hx := TB.start w ⟨hk, hnn, hs, A, l.length, lc, F, f.length, fc⟩ zeroHd
      refine ⟨((one_alloc w _).alloc (by simp) _).alloc (by simp; omega) _, ((Bx.start w ⟨hk, hnn, hs, A, l.length, lc, F, f.length, fc⟩ 25).alloc _).alloc _, ?_, ?_, by omega⟩
      · have h9 := heap_alloc_new (w.alloc (Obj.cells #[.int .i64 hk, .int .i64 hnn, .string hs, .slice A l.length lc, .slice F f.length fc] 25)) (Obj.cells #[.int .i64 0, .int .i64 0, .string { data := #[] }, .slice none 0 0, .slice none 0 0] 25)
        rw [World.size_alloc] at h9
        exact hdAt_row (h := ⟨0, 0, ByteArray.empty, none, 0, 0, none, 0, 0⟩) ((Below.heap_alloc _ _ _ (by simp)).trans h9)
      · have h9 := heap_alloc_new ((w.alloc (Obj.cells #[.int .i64 hk, .int .i64 hnn, .string hs, .slice A l.length lc, .slice F f.length fc] 25)).alloc (Obj.cells #[.int .i64 0, .int .i64 0, .string { data := #[] }, .slice none 0 0, .slice none 0 0] 25)) (Obj.cells #[.int .i64 hk, .int .i64 hnn, .string hs, .slice none 0 0, .slice none 0 0] 25)
        rw [World.size_alloc, World.size_alloc] at h9
        exact hdAt_row (h := ⟨hk, hnn, hs, none, 0, 0, none, 0, 0⟩) h9
    have hWc : w.heap.size + 1 + 1 < (((w.alloc (Obj.cells #[.int .i64 hk, .int .i64 hnn, .string hs, .slice A l.length lc, .slice F f.length fc] 25)).alloc (Obj.cells #[.int .i64 0, .int .i64 0, .string { data := #[] }, .slice none 0 0, .slice none 0 0] 25)).alloc (Obj.cells #[.int .i64 hk, .int .i64 hnn, .string hs, .slice none 0 0, .slice none 0 0] 25)).heap.size := by simp
    generalize (((w.alloc (Obj.cells #[.int .i64 hk, .int .i64 hnn, .string hs, .slice A l.length lc, .slice F f.length fc] 25)).alloc (Obj.cells #[.int .i64 0, .int .i64 0, .string { data := #[] }, .slice none 0 0, .slice none 0 0] 25)).alloc (Obj.cells #[.int .i64 hk, .int .i64 hnn, .string hs, .slice none 0 0, .slice none 0 0] 25)) = wc at hA hWc ⊢
    generalize w.heap.size + 1 + 1 = W at hA hWc ⊢
    have hWlo := hA.lo
    have HA := Lib.hid hA
    clear hA
    go_loopw [4] (fun iv wr => ∃ (i : Nat) (us : List Hd) (A' : Option Addr) (c' : Nat), iv = .int .i64 i ∧ LoopA wc W hk hnn hs (srtL l) i wr us A' c') (fun iv _ => l.length - (intOf iv).toNat)
    case atStart => exact ⟨0, [], none, 0, rfl, ⟨Nat.zero_le _, Kp.refl _ _, HA.out.cur, World.ownsRow_nil _ _ _ _, LieP.start _ _ _⟩⟩
    case round =>
      obtain ⟨i, us, A', c', rfl, hLL⟩ := hrel
      have HLL := Lib.hid hLL
      have hi := hLL.hi
      rw [srtL_length] at hi
      have hkp := Lib.hid hLL.kp
      have cW0 := hLL.row.cell (show 3 < 5 by decide)
      have fW0 := hLL.row.frozen 3
      have hWr := hLL.row.lt
      clear hLL
      simp only [hdAt, Hd.cells, List.getD_cons_succ, List.getD_cons_zero] at cW0
      have bL : wr.cell? ⟨w.heap.size, 3, none⟩ = some (.slice A l.length lc) := (hkp.out.cell (p := ⟨w.heap.size, 3, none⟩) (show w.heap.size ≠ W by omega) (show w.heap.size < wc.heap.size from HA.out.box.1)).trans (HA.out.box.2 3 _ rfl)
      by_cases hlt : i < l.length
      · obtain ⟨ad, u, rfl, _, hbl, hLu, hcell⟩ := HOP.out.L i _ (List.getElem?_eq_getElem hlt)
        have hSz := HA.out.bel.size
        have hcell2 := hcell.below HA.out.bel hbl
        have hcl5 := hcell2.kp hkp.out (by omega) (by omega)
        have HC5 := Lib.hid hcl5
        obtain ⟨k0, k1, k2, k3, k4⟩ := hcl5
        have hLu1 : Lies wc (fun b => b < w.heap.size) l[i] u := Lies.keep (fun p _ hp => HA.out.bel.cell hp) (fun b _ hb => hb) _ _ hLu
        have hLu2 : Lies wr (fun b => b < w.heap.size) l[i] u := hLu1.kp hkp.out (fun b hb => by omega)
        have HLU := Lib.hid hLu2
        have ihx := Lib.hid (ihl l[i] (List.getElem_mem hlt))
        have hcx := Lib.hid (show l[i].cnt ≤ 1000 by have := cntL_mem (List.getElem_mem hlt); omega)
        have G1 := Lib.hid (srtL_get (List.getElem?_eq_getElem hlt))
        clear hcell hcell2 hLu hLu1 hLu2 ihl ihf
        have hse : SE w.heap.size (.slice (some ad) l.length lc) (ad.add (i * 5)) u wr := ⟨bL, HC5.out⟩
        have hqb : (ad.add (i * 5)).block < w.heap.size := hbl
        have HCAL := Lib.hid (ihx.out (fun b => b < w.heap.size) u wr.drew (HLU.out.below ((Below.refl wr.heap.size wr).drew) (Nat.le_refl _)) hcx.out)
        have HOWN := Lib.hid (show ∀ w2, Below wr.drew.heap.size wr.drew w2 → w2.ownsRow wc.heap.size 25 5 (.slice A' i c') i (us.flatMap Hd.cells) from fun w2 hb => own_below (own_below HLL.out.own ((Below.refl wr.heap.size wr).drew) (Nat.le_refl _)) hb (Nat.le_refl _))
        have HRC := Lib.hid (show some w.heap.size ≠ (Value.slice A' i c').ownBlock from fun e => by have := own_lo HLL.out.own e.symm; omega)
        have HRX := Lib.hid (show some (ad.add (i * 5)).block ≠ (Value.slice A' i c').ownBlock from fun e => by have := own_lo HLL.out.own e.symm; omega)
        have HRW := Lib.hid (show some W ≠ (Value.slice A' i c').ownBlock from fun e => by have := own_lo HLL.out.own e.symm; omega)
        have hCW : w.heap.size ≠ W := by omega
        have hXW : (ad.add (i * 5)).block ≠ W := by omega
        have hwcx : wc.heap.size ≤ wr.drew.heap.size := hkp.out.size
        have HSE := Lib.hid hse
        obtain ⟨i0, hi0, hz0, hz1, hz2⟩ := info_parts info25
        have cW := cW0
        have fW := fW0
        clear hse cW0 fW0
        go_wp2_with fail
        have hld : ldS = Op.load 22 (Operand.tmp 23) := rfl
        rw [show Op.load 22 (Operand.tmp 23) = ldS from rfl]
        go_region_held3 (fun w' => w'.cell? ⟨w.heap.size, 3, none⟩ = some (.slice (some ad) l.length lc) ∧ w'.cell? (ad.add (i * 5)) = some (.int .i64 u.k) ∧ w'.cell? ⟨(ad.add (i * 5)).block, (ad.add (i * 5)).off + 1, none⟩ = some (.int .i64 u.n) ∧ w'.cell? ⟨(ad.add (i * 5)).block, (ad.add (i * 5)).off + 2, none⟩ = some (.string u.s) ∧ w'.cell? ⟨(ad.add (i * 5)).block, (ad.add (i * 5)).off + 3, none⟩ = some (.slice u.A u.la u.lc) ∧ w'.cell? ⟨(ad.add (i * 5)).block, (ad.add (i * 5)).off + 4, none⟩ = some (.slice u.F u.lf u.fc))
          (first
            | go_keep
            | (exact SE.call HSE.out hb2)
            | (exact SE.alloc (SE.call HSE.out hb2) _)
            | (exact SE.grown (SE.alloc (SE.call HSE.out hb2) _) hgrow3 HRC.out HRX.out)
            | (exact SE.set (SE.grown (SE.alloc (SE.call HSE.out hb2) _) hgrow3 HRC.out HRX.out) hCW hXW _)
            | skip)
          (first
            | (go_at_call 25; refine (Hid.out HCAL).mono ?_; rintro e w2 ⟨h', rfl, hlie, hb2⟩; have cW2 := cur_call cW hb2; have fW2 := cur_frz cW fW hb2; have hWw2 := World.block_lt_of_cell? w2 _ cW2)
            | (refine step_append_lies _ (by rfl) _ _ _ (by rfl) wc.heap.size 25 i0 _ 5 80 Try.underlying22 hi0 hz0 hz1 hz2 rfl (by decide) (.slice A' i c') i (us.flatMap Hd.cells) (by rfl) (World.ownsRow.alloc (Hid.out HOWN _ hb2) _)
                ⟨w2.heap.size, 0, none⟩ 1 1 h'.cells (by rfl) (by rfl) (World.news_of_block (heap_alloc_new w2 _)) (by simp [Hd.cells, Value.oneCell']) (by decide) (by unfold maxLen; omega) (by omega) (Nat.le_trans hwcx (Nat.le_trans hb2.size (by simp))) (w2.heap.size + 1) (by simp) ?_; intro g cap w3 hown3 hgrow3 hat3 hlt3; have cW3 := cur_grown cW2 hgrow3 HRW.out; have fW3 := cur_gfrz cW2 fW2 hgrow3 HRW.out)
            | fail)
        all_goals go_wp2_with fail
        all_goals exact ⟨⟨i + 1, _, _, _, by go_num, HLL.out.step hWc G1.out (Below.refl _ _) hb2 hlie hown3 hgrow3 hat3⟩, by simp [intOf]; omega⟩
      · have hie : i = l.length := by omega
        subst hie
        have hmm : maxLen ≤ 9223372036854775807 := by decide
        go_wp2_with fail
        clear bL cW0 fW0
        rename World => wd
        have hwdc := hkp.out.size
        go_loopw [5] (fun iv wt => ∃ (i : Nat) (vs : List (ByteArray × Hd)) (F' : Option Addr) (d' : Nat), iv = .int .i64 i ∧ LoopG wd W ⟨hk, hnn, hs, A', l.length, c', none, 0, 0⟩ (ks.zip (srtL f)) i wt vs F' d') (fun iv _ => f.length - (intOf iv).toNat)
        case atStart => exact ⟨0, [], none, 0, rfl, ⟨Nat.zero_le _, Kp.refl _ _, HLL.out.row, World.ownsRow_nil _ _ _ _, rfl, fun j p v h => by simp [srtP] at h⟩⟩
        case round =>
          obtain ⟨i, vs, F', d', rfl, hLG⟩ := hrel
          have HLG := Lib.hid hLG
          have hi := hLG.hi
          simp only [List.length_zip, srtL_length, E6.out, Nat.min_self] at hi
          have hkpF := Lib.hid hLG.kp
          clear hLG
          have hkall : Hid (Kp W wc wr) := hkp.out.trans hkpF.out
          have bF : wr.cell? ⟨w.heap.size, 4, none⟩ = some (.slice F f.length fc) := (hkall.out.cell (p := ⟨w.heap.size, 4, none⟩) (show w.heap.size ≠ W by omega) (show w.heap.size < wc.heap.size from HA.out.box.1)).trans (HA.out.box.2 4 _ rfl)
          by_cases hlt : i < f.length
          · obtain ⟨ad, u, key, rfl, _, hbl, hkey, hkm, hLu, hcell⟩ := HOP.out.K i _ (List.getElem?_eq_getElem hlt)
            have hSz := HA.out.bel.size
            have hcl6 := (hcell.below HA.out.bel hbl).kp hkall.out (by omega) (by omega)
            have HC6 := Lib.hid hcl6
            obtain ⟨k0, k1, k2, k3, k4, k5⟩ := hcl6
            have hLu1 : Lies wc (fun b => b < w.heap.size) f[i] u := Lies.keep (fun p _ hp => HA.out.bel.cell hp) (fun b _ hb => hb) _ _ hLu
            have hLu2 : Lies wr (fun b => b < w.heap.size) f[i] u := hLu1.kp hkall.out (fun b hb => by omega)
            have HLU := Lib.hid hLu2
            have ihx := Lib.hid (ihf f[i] (List.getElem_mem hlt))
            have hcx := Lib.hid (show f[i].cnt ≤ 1000 by have := cntL_mem (List.getElem_mem hlt); omega)
            have HKEY := Lib.hid hkey
            clear hcell hLu hLu1 hLu2 ihl ihf hkey
            have hsg : SG w.heap.size (.slice (some ad) f.length fc) (ad.add (i * 6)) key u wr := ⟨bF, HC6.out⟩
            have HSG := Lib.hid hsg
            have hqb : (ad.add (i * 6)).block < w.heap.size := hbl
            have hz0 : w.heap.size < wr.heap.size := by have := hkall.out.size; omega
            have HCAL := Lib.hid (show ∀ wx : World, Below wr.heap.size wr wx → Calls Try.prog 25 #[u.val] wx fun e w' => SrtR f[i] wx e w' from fun wx hb => ihx.out (fun b => b < w.heap.size) u wx (HLU.out.below hb (Nat.le_refl _)) hcx.out)
            unfold Hd.val at HCAL
            have hXP : w.heap.size ≠ wr.heap.size := by omega
            have hqP : (ad.add (i * 6)).block ≠ wr.heap.size := by omega
            have HB0 := Lib.hid (show Below wr.heap.size wr wr.drew from (Below.refl wr.heap.size wr).drew)
            have HB1 := Lib.hid (show ∀ o : Obj, Below wr.heap.size wr (wr.alloc o).drew from fun o => (one_alloc wr o).drew)
            have HSA := Lib.hid (show ∀ o : Obj, SG w.heap.size (.slice (some ad) f.length fc) (ad.add (i * 6)) key u (wr.alloc o).drew from fun o => SG.imp (w' := (wr.alloc o).drew) (SG.alloc hsg o) rfl rfl)
            have HSD := Lib.hid (show SG w.heap.size (.slice (some ad) f.length fc) (ad.add (i * 6)) key u wr.drew from SG.imp (w' := wr.drew) hsg rfl rfl)
            have HSC := Lib.hid (show ∀ o : Obj, SG w.heap.size (.slice (some ad) f.length fc) (ad.add (i * 6)) key u (wr.drew.alloc o) from fun o => SG.alloc HSD.out o)
            have hzd3 : wr.heap.size < (wr.alloc (Obj.cells #[.string { data := #[] }, .int .i64 0, .int .i64 0, .string { data := #[] }, .slice none 0 0, .slice none 0 0] 36)).drew.heap.size := by show _ < (wr.alloc _).heap.size; simp
            have m0 : (wr.alloc (Obj.cells #[.string { data := #[] }, .int .i64 0, .int .i64 0, .string { data := #[] }, .slice none 0 0, .slice none 0 0] 36)).drew.cell? ⟨wr.heap.size, 0, none⟩ = some (.string { data := #[] }) := World.cell?_alloc_new wr _ _ 0
            have m1 : (wr.alloc (Obj.cells #[.string { data := #[] }, .int .i64 0, .int .i64 0, .string { data := #[] }, .slice none 0 0, .slice none 0 0] 36)).drew.cell? ⟨wr.heap.size, 1, none⟩ = some (.int .i64 0) := World.cell?_alloc_new wr _ _ 1
            have m2 : (wr.alloc (Obj.cells #[.string { data := #[] }, .int .i64 0, .int .i64 0, .string { data := #[] }, .slice none 0 0, .slice none 0 0] 36)).drew.cell? ⟨wr.heap.size, 2, none⟩ = some (.int .i64 0) := World.cell?_alloc_new wr _ _ 2
            have m3 : (wr.alloc (Obj.cells #[.string { data := #[] }, .int .i64 0, .int .i64 0, .string { data := #[] }, .slice none 0 0, .slice none 0 0] 36)).drew.cell? ⟨wr.heap.size, 3, none⟩ = some (.string { data := #[] }) := World.cell?_alloc_new wr _ _ 3
            have m4 : (wr.alloc (Obj.cells #[.string { data := #[] }, .int .i64 0, .int .i64 0, .string { data := #[] }, .slice none 0 0, .slice none 0 0] 36)).drew.cell? ⟨wr.heap.size, 4, none⟩ = some (.slice none 0 0) := World.cell?_alloc_new wr _ _ 4
            have m5 : (wr.alloc (Obj.cells #[.string { data := #[] }, .int .i64 0, .int .i64 0, .string { data := #[] }, .slice none 0 0, .slice none 0 0] 36)).drew.cell? ⟨wr.heap.size, 5, none⟩ = some (.slice none 0 0) := World.cell?_alloc_new wr _ _ 5
            have y0 : ∀ j, (wr.alloc (Obj.cells #[.string { data := #[] }, .int .i64 0, .int .i64 0, .string { data := #[] }, .slice none 0 0, .slice none 0 0] 36)).drew.frozen? ⟨wr.heap.size, j, none⟩ = false := fun j => World.frozen?_alloc_new wr _ _ j
            have Y0 := Lib.hid y0
            clear hsg y0
            go_wp2_with fail
            go_cut [6] from 41 to 89 (fun p6 wp => ∃ P h', p6 = .pointer (some ⟨P, 0, none⟩) ∧ AftP wr P key f[i].srt h' wp)
            case first =>
              go_region_held3 (fun w' => w'.cell? ⟨w.heap.size, 4, none⟩ = some (.slice (some ad) f.length fc) ∧ w'.cell? (ad.add (i * 6)) = some (.string key) ∧ w'.cell? ⟨(ad.add (i * 6)).block, (ad.add (i * 6)).off + 1, none⟩ = some (.int .i64 u.k) ∧ w'.cell? ⟨(ad.add (i * 6)).block, (ad.add (i * 6)).off + 2, none⟩ = some (.int .i64 u.n) ∧ w'.cell? ⟨(ad.add (i * 6)).block, (ad.add (i * 6)).off + 3, none⟩ = some (.string u.s) ∧ w'.cell? ⟨(ad.add (i * 6)).block, (ad.add (i * 6)).off + 4, none⟩ = some (.slice u.A u.la u.lc) ∧ w'.cell? ⟨(ad.add (i * 6)).block, (ad.add (i * 6)).off + 5, none⟩ = some (.slice u.F u.lf u.fc))
                (first
                  | (with_reducible exact HSD.out)
                  | (with_reducible exact SG.call HSG.out hb1)
                  | (with_reducible exact SG.alloc (SG.call HSG.out hb1) _)
                  | (with_reducible exact HSA.out _)
                  | (with_reducible exact HSC.out _)
                  | (have h6 := SG.callB HSA.out hb1; with_reducible exact h6)
                  | (have h6 := SG.callB HSA.out hb1; with_reducible exact SG.set6 h6 hXP hqP _ _ _ _ _ _)
                  | (trace_state; fail))
                (first
                  | (go_at_call 25; refine (Hid.out HCAL _ ?_).mono ?_; exact Hid.out HB0; rintro e w1 ⟨h', rfl, hlie, hb1⟩; obtain ⟨hk1, hf1, hs1⟩ := keepers hb1)
                  | (go_at_call 25; refine (Hid.out HCAL _ ?_).mono ?_; exact Hid.out HB1 _; rintro e w1 ⟨h', rfl, hlie, hb1⟩; obtain ⟨hk1, hf1, hs1⟩ := keepers hb1; have n0 := (hk1 _ 0 hzd3).trans m0; have n1 := (hk1 _ 1 hzd3).trans m1; have n2 := (hk1 _ 2 hzd3).trans m2; have n3 := (hk1 _ 3 hzd3).trans m3; have n4 := (hk1 _ 4 hzd3).trans m4; have n5 := (hk1 _ 5 hzd3).trans m5; have g0 := (hf1 _ 0 hzd3).trans (Y0.out 0); have g1 := (hf1 _ 1 hzd3).trans (Y0.out 1); have g2 := (hf1 _ 2 hzd3).trans (Y0.out 2); have g3 := (hf1 _ 3 hzd3).trans (Y0.out 3); have g4 := (hf1 _ 4 hzd3).trans (Y0.out 4); have g5 := (hf1 _ 5 hzd3).trans (Y0.out 5))
                  | fail)
              all_goals go_wp2_with fail
              all_goals go_meet
              · exact ⟨_, _, rfl, aftA hb1 hlie⟩
              · exact ⟨_, _, rfl, aftB rfl hb1 hlie⟩
            case rest =>
              obtain ⟨P, h', rfl, HAF0⟩ := hcut
              have HAF := Lib.hid HAF0
              have hPlt := HAF0.lt
              clear HAF0
              rename World => wp
              have hvl := HLG.out.len
              have hWd : W < wd.heap.size := by omega
              have HX := Lib.hid (show (ks.zip (srtL f))[i]? = some (key, f[i].srt) from by rw [List.getElem?_zip_eq_some]; exact ⟨HKEY.out, srtL_get (List.getElem?_eq_getElem hlt)⟩)
              have hszp := HAF.out.bel.size
              have hpl := plc_le key (vs.map Prod.fst)
              rw [List.length_map, hvl] at hpl
              have HKEYS := Lib.hid hpl
              go_wp2_with fail
              go_loopw [7] (fun kv wq => ∃ (k : Nat), kv = .int .i64 k ∧ k ≤ plc (vs.map Prod.fst) key ∧ Below wp.heap.size wp wq) (fun kv _ => i - (intOf kv).toNat)
              case atStart => exact ⟨0, rfl, Nat.zero_le _, Below.refl _ _⟩
              case round =>
                obtain ⟨k, rfl, hkq, hB⟩ := hrel
                have HB := Lib.hid hB
                have hki : k ≤ i := by omega
                have hWr := HLG.out.row.lt
                have hcp := own_cap HLG.out.own
                have cF : wr.cell? ⟨W, 4, none⟩ = some (.slice F' i d') := (hB.cell (p := ⟨W, 4, none⟩) (show W < _ by omega)).trans ((HAF.out.bel.cell (p := ⟨W, 4, none⟩) hWr).trans (HLG.out.row.cell (show 4 < 5 by decide)))
                have cP : wr.cell? ⟨P, 0, none⟩ = some (.string key) := (hB.cell (p := ⟨P, 0, none⟩) hPlt).trans (HAF.out.cel 0 _ rfl)
                have hmm : maxLen ≤ 9223372036854775807 := by decide
                have hkd : k ≤ d' := by omega
                by_cases hlt2 : k < i
                · obtain ⟨ad2, hF', -, hcells⟩ := row_of_own (S := fun _ => True) pcells vs pcells_len HLG.out.own (fun _ _ => trivial) (.inr (by decide)) (by simp; omega)
                  subst hF'
                  obtain ⟨kk, hv, hkk⟩ : ∃ (kk : ByteArray) (hv : Hd), vs[k]? = some (kk, hv) := ⟨vs[k].1, vs[k].2, List.getElem?_eq_getElem (by omega)⟩
                  have cK0 := hcells k (pcells (kk, hv)) (by rw [List.getElem?_map, hkk]; rfl) 0 _ rfl
                  rw [Nat.add_zero] at cK0
                  have hb0 := World.block_lt_of_cell? _ _ cK0
                  have cK : wr.cell? (ad2.add (k * 6)) = some (.string kk) := (hB.cell (p := ad2.add (k * 6)) (by omega)).trans ((HAF.out.bel.cell hb0).trans cK0)
                  have hkm : (vs.map Prod.fst)[k]? = some kk := by rw [List.getElem?_map, hkk]; rfl
                  have HKM := Lib.hid hkm
                  clear cK0 hcells hkk hkm hB
                  by_cases hless : lessB kk key = true
                  · have hl1 : Op.bytesLess kk.toList key.toList = true := hless
                    have HST := Lib.hid (plc_step hkq HKM.out hless)
                    clear hless
                    go_wp2_with fail
                    go_quiet (fail)
                    go_wp2_with fail
                    exact ⟨⟨k + 1, by go_num, HST.out, below_drewN' HB.out _⟩, by simp [intOf]; omega⟩
                  · have hl1 : Op.bytesLess kk.toList key.toList = false := by simpa [lessB] using hless
                    have HST := Lib.hid (plc_stop hkq HKM.out hl1)
                    clear hless
                    go_wp2_with fail
                    go_quiet (fail)
                    have HQ := Lib.hid (below_drewN' HB.out nq)
                    have hPq : P < (wr.drewN nq).heap.size := by have := HQ.out.size; omega
                    generalize wr.drewN nq = wq at HQ hPq ⊢
                    have hlenT := flat_len (vs.take k)
                    rw [List.length_take, Nat.min_eq_left (show k ≤ vs.length by omega)] at hlenT
                    have hlenD := flat_len (vs.drop k)
                    rw [List.length_drop, hvl] at hlenD
                    have HLT := Lib.hid hlenT
                    have HLD := Lib.hid hlenD
                    clear hlenT hlenD
                    have cF2 := (old_F HLG.out HAF.out HQ.out (Below.refl _ _)).1
                    obtain ⟨i0, hi0, hz0, hz1, hz2⟩ := info_parts info36
                    have HS1 := Lib.hid (show ∀ j u, ((vs.take k).flatMap pcells)[j]? = some u → wq.cell? (ad2.add j) = some u from fun j u hj => old_cells HLG.out HAF.out HQ.out (Below.refl _ _) j u (flat_take_at hj))
                    go_wp2_with (at_builtin; first | (refine wpList_append_may _ rfl _ _ 23 rfl wq.heap.size 36 i0 _ 6 96 Try.underlying23 hi0 hz0 hz1 hz2 rfl (by decide) v2 (0 + k + 1) ([] ++ (vs.take k).flatMap pcells ++ pcells (key, h')) rfl HO2.out (some (ad2.add (k * 6))) (i - k) (d' - k) ((vs.drop k).flatMap pcells) rfl HLD.out (.inl ⟨ad2.add (k * 6), rfl, fun j u hj => (congrArg w2.cell? (ada ad2 (k * 6) j)).trans (old_cells HLG.out HAF.out HQ.out h2.out (k * 6 + j) u (flat_drop_at (by omega) hj))⟩) (flat_one _) (by unfold maxLen; omega) (by omega) h2.out.size ?_; intro v3 w3 hown3 hgrow3 hat3; have h3 := Lib.hid (grow_three HG1.out HT1.out HG2.out HT2.out hgrow3); have zF := (old_F HLG.out HAF.out HQ.out h3.out); obtain ⟨cF4, fF4⟩ := zF; have hown4 : w3.ownsRow wq.heap.size 36 6 v3 (i + 1) ((putP vs (key, h')).flatMap pcells) := (by rw [← put_flat HST.out]; exact (show (0 + k + 1 + (i - k)) = i + 1 from by omega) ▸ hown3); obtain ⟨g, cap, hv3, -, -⟩ := hown4.form (by omega); subst hv3; have HO4 := Lib.hid hown4; clear hown3 hown4 hgrow3 hat3) | (refine wpList_append_may _ rfl _ _ 23 rfl wq.heap.size 36 i0 _ 6 96 Try.underlying23 hi0 hz0 hz1 hz2 rfl (by decide) v1 (0 + k) ([] ++ (vs.take k).flatMap pcells) rfl (own_below HO1.out (one_alloc w1 _) (Nat.le_refl _)) (some ⟨w1.heap.size, 0, none⟩) 1 1 (pcells (key, h')) rfl rfl (.inl ⟨_, rfl, World.news_of_block (heap_alloc_new w1 _)⟩) (by simp [pcells, Hd.cells, Value.oneCell']) (by unfold maxLen; omega) (by omega) (Nat.le_trans HG1.out.size (by simp)) ?_; intro v2 w2 hown2 hgrow2 hat2; have h2 := Lib.hid (grow_two HG1.out HT1.out hgrow2); have cF3 := (old_F HLG.out HAF.out HQ.out h2.out).1; have HG2 := Lib.hid hgrow2; have HO2 := Lib.hid hown2; have HT2 := Lib.hid hat2; clear hown2 hgrow2 hat2) | (refine wpList_append_may _ rfl _ _ 23 rfl wq.heap.size 36 i0 _ 6 96 Try.underlying23 hi0 hz0 hz1 hz2 rfl (by decide) (.slice none 0 0) 0 [] rfl (World.ownsRow_nil _ _ _ _) (some ad2) k d' ((vs.take k).flatMap pcells) rfl HLT.out (.inl ⟨ad2, rfl, HS1.out⟩) (flat_one _) (by unfold maxLen; omega) (by omega) (Nat.le_refl _) ?_; intro v1 w1 hown1 hgrow1 hat1; obtain ⟨q0, q1, q2, q3, q4, q5⟩ := aft_cells HAF.out HQ.out hgrow1; have HG1 := Lib.hid hgrow1; have HO1 := Lib.hid hown1; have HT1 := Lib.hid hat1; clear hown1 hgrow1 hat1))
                    go_roundw
                    case rel =>
                      exact ⟨_, putP vs (key, h'), some ⟨g, 0, none⟩, cap, by go_num, HLG.out.step hWd HX.out HAF.out HQ.out h3.out HO4.out⟩
                    case measure => simp [intOf]; omega
                · obtain rfl : k = i := by omega
                  have HST := Lib.hid (plc_end hkq (show (vs.map Prod.fst).length ≤ k by rw [List.length_map]; omega))
                  clear hB
                  rcases F' with _ | ad2
                  · obtain ⟨rfl, rfl⟩ := own_none HLG.out.own
                    go_wp2_with fail
                    go_quiet (fail)
                    have HQ := Lib.hid (below_drewN' HB.out nq)
                    have hPq : P < (wr.drewN nq).heap.size := by have := HQ.out.size; omega
                    generalize wr.drewN nq = wq at HQ hPq ⊢
                    have hlenT := flat_len (vs.take 0)
                    rw [List.length_take, Nat.min_eq_left (show 0 ≤ vs.length by omega)] at hlenT
                    have hlenD := flat_len (vs.drop 0)
                    rw [List.length_drop, hvl] at hlenD
                    have HLT := Lib.hid hlenT
                    have HLD := Lib.hid hlenD
                    clear hlenT hlenD
                    have cF2 := (old_F HLG.out HAF.out HQ.out (Below.refl _ _)).1
                    obtain ⟨i0, hi0, hz0, hz1, hz2⟩ := info_parts info36
                    go_wp2_with (at_builtin; first | (refine wpList_append_may _ rfl _ _ 23 rfl wq.heap.size 36 i0 _ 6 96 Try.underlying23 hi0 hz0 hz1 hz2 rfl (by decide) v2 (0 + 0 + 1) ([] ++ (vs.take 0).flatMap pcells ++ pcells (key, h')) rfl HO2.out none 0 0 ((vs.drop 0).flatMap pcells) rfl (by rw [HLD.out]) (.inr ⟨rfl, rfl, List.length_eq_zero_iff.1 (by rw [HLD.out])⟩) (flat_one _) (by unfold maxLen; omega) (by omega) h2.out.size ?_; intro v3 w3 hown3 hgrow3 hat3; have h3 := Lib.hid (grow_three HG1.out HT1.out HG2.out HT2.out hgrow3); have zF := (old_F HLG.out HAF.out HQ.out h3.out); obtain ⟨cF4, fF4⟩ := zF; have hown4 : w3.ownsRow wq.heap.size 36 6 v3 (0 + 1) ((putP vs (key, h')).flatMap pcells) := (by rw [← put_flat HST.out]; exact (show (0 + 0 + 1 + 0) = 0 + 1 from by omega) ▸ hown3); obtain ⟨g, cap, hv3, -, -⟩ := hown4.form (by omega); subst hv3; have HO4 := Lib.hid hown4; clear hown3 hown4 hgrow3 hat3) | (refine wpList_append_may _ rfl _ _ 23 rfl wq.heap.size 36 i0 _ 6 96 Try.underlying23 hi0 hz0 hz1 hz2 rfl (by decide) v1 (0 + 0) ([] ++ (vs.take 0).flatMap pcells) rfl (own_below HO1.out (one_alloc w1 _) (Nat.le_refl _)) (some ⟨w1.heap.size, 0, none⟩) 1 1 (pcells (key, h')) rfl rfl (.inl ⟨_, rfl, World.news_of_block (heap_alloc_new w1 _)⟩) (by simp [pcells, Hd.cells, Value.oneCell']) (by unfold maxLen; omega) (by omega) (Nat.le_trans HG1.out.size (by simp)) ?_; intro v2 w2 hown2 hgrow2 hat2; have h2 := Lib.hid (grow_two HG1.out HT1.out hgrow2); have cF3 := (old_F HLG.out HAF.out HQ.out h2.out).1; have HG2 := Lib.hid hgrow2; have HO2 := Lib.hid hown2; have HT2 := Lib.hid hat2; clear hown2 hgrow2 hat2) | (refine wpList_append_may _ rfl _ _ 23 rfl wq.heap.size 36 i0 _ 6 96 Try.underlying23 hi0 hz0 hz1 hz2 rfl (by decide) (.slice none 0 0) 0 [] rfl (World.ownsRow_nil _ _ _ _) none 0 0 ((vs.take 0).flatMap pcells) rfl (by rw [HLT.out]) (.inr ⟨rfl, rfl, List.length_eq_zero_iff.1 (by rw [HLT.out])⟩) (flat_one _) (by unfold maxLen; omega) (by omega) (Nat.le_refl _) ?_; intro v1 w1 hown1 hgrow1 hat1; obtain ⟨q0, q1, q2, q3, q4, q5⟩ := aft_cells HAF.out HQ.out hgrow1; have HG1 := Lib.hid hgrow1; have HO1 := Lib.hid hown1; have HT1 := Lib.hid hat1; clear hown1 hgrow1 hat1))
                    go_roundw
                    case rel =>
                      exact ⟨_, putP vs (key, h'), some ⟨g, 0, none⟩, cap, by go_num, HLG.out.step hWd HX.out HAF.out HQ.out h3.out HO4.out⟩
                    case measure => simp [intOf]; omega
                  · have HDN := Lib.hid (show (vs.drop k).flatMap pcells = [] from by rw [List.drop_of_length_le (by omega)]; rfl)
                    by_cases hdk : d' = k
                    · have hdk2 : k = d' := hdk.symm
                      subst hdk2
                      go_wp2_with fail
                      go_quiet (fail)
                      have HQ := Lib.hid (below_drewN' HB.out nq)
                      have hPq : P < (wr.drewN nq).heap.size := by have := HQ.out.size; omega
                      generalize wr.drewN nq = wq at HQ hPq ⊢
                      have hlenT := flat_len (vs.take k)
                      rw [List.length_take, Nat.min_eq_left (show k ≤ vs.length by omega)] at hlenT
                      have hlenD := flat_len (vs.drop k)
                      rw [List.length_drop, hvl] at hlenD
                      have HLT := Lib.hid hlenT
                      have HLD := Lib.hid hlenD
                      clear hlenT hlenD
                      have cF2 := (old_F HLG.out HAF.out HQ.out (Below.refl _ _)).1
                      obtain ⟨i0, hi0, hz0, hz1, hz2⟩ := info_parts info36
                      have HS1 := Lib.hid (show ∀ j u, ((vs.take k).flatMap pcells)[j]? = some u → wq.cell? (ad2.add j) = some u from fun j u hj => old_cells HLG.out HAF.out HQ.out (Below.refl _ _) j u (flat_take_at hj))
                      go_wp2_with (at_builtin; first | (refine wpList_append_may _ rfl _ _ 23 rfl wq.heap.size 36 i0 _ 6 96 Try.underlying23 hi0 hz0 hz1 hz2 rfl (by decide) v2 (0 + k + 1) ([] ++ (vs.take k).flatMap pcells ++ pcells (key, h')) rfl HO2.out (some ad2) 0 0 ((vs.drop k).flatMap pcells) rfl (by rw [HDN.out]; rfl) (.inl ⟨_, rfl, fun j u hj => by rw [HDN.out] at hj; cases hj⟩) (flat_one _) (by unfold maxLen; omega) (by omega) h2.out.size ?_; intro v3 w3 hown3 hgrow3 hat3; have h3 := Lib.hid (grow_three HG1.out HT1.out HG2.out HT2.out hgrow3); have zF := (old_F HLG.out HAF.out HQ.out h3.out); obtain ⟨cF4, fF4⟩ := zF; have hown4 : w3.ownsRow wq.heap.size 36 6 v3 (k + 1) ((putP vs (key, h')).flatMap pcells) := (by rw [← put_flat HST.out]; exact (show (0 + k + 1 + 0) = k + 1 from by omega) ▸ hown3); obtain ⟨g, cap, hv3, -, -⟩ := hown4.form (by omega); subst hv3; have HO4 := Lib.hid hown4; clear hown3 hown4 hgrow3 hat3) | (refine wpList_append_may _ rfl _ _ 23 rfl wq.heap.size 36 i0 _ 6 96 Try.underlying23 hi0 hz0 hz1 hz2 rfl (by decide) v1 (0 + k) ([] ++ (vs.take k).flatMap pcells) rfl (own_below HO1.out (one_alloc w1 _) (Nat.le_refl _)) (some ⟨w1.heap.size, 0, none⟩) 1 1 (pcells (key, h')) rfl rfl (.inl ⟨_, rfl, World.news_of_block (heap_alloc_new w1 _)⟩) (by simp [pcells, Hd.cells, Value.oneCell']) (by unfold maxLen; omega) (by omega) (Nat.le_trans HG1.out.size (by simp)) ?_; intro v2 w2 hown2 hgrow2 hat2; have h2 := Lib.hid (grow_two HG1.out HT1.out hgrow2); have cF3 := (old_F HLG.out HAF.out HQ.out h2.out).1; have HG2 := Lib.hid hgrow2; have HO2 := Lib.hid hown2; have HT2 := Lib.hid hat2; clear hown2 hgrow2 hat2) | (refine wpList_append_may _ rfl _ _ 23 rfl wq.heap.size 36 i0 _ 6 96 Try.underlying23 hi0 hz0 hz1 hz2 rfl (by decide) (.slice none 0 0) 0 [] rfl (World.ownsRow_nil _ _ _ _) (some ad2) k k ((vs.take k).flatMap pcells) rfl HLT.out (.inl ⟨ad2, rfl, HS1.out⟩) (flat_one _) (by unfold maxLen; omega) (by omega) (Nat.le_refl _) ?_; intro v1 w1 hown1 hgrow1 hat1; obtain ⟨q0, q1, q2, q3, q4, q5⟩ := aft_cells HAF.out HQ.out hgrow1; have HG1 := Lib.hid hgrow1; have HO1 := Lib.hid hown1; have HT1 := Lib.hid hat1; clear hown1 hgrow1 hat1))
                      go_roundw
                      case rel =>
                        exact ⟨_, putP vs (key, h'), some ⟨g, 0, none⟩, cap, by go_num, HLG.out.step hWd HX.out HAF.out HQ.out h3.out HO4.out⟩
                      case measure => simp [intOf]; omega
                    · go_wp2_with fail
                      go_quiet (fail)
                      have HQ := Lib.hid (below_drewN' HB.out nq)
                      have hPq : P < (wr.drewN nq).heap.size := by have := HQ.out.size; omega
                      generalize wr.drewN nq = wq at HQ hPq ⊢
                      have hlenT := flat_len (vs.take k)
                      rw [List.length_take, Nat.min_eq_left (show k ≤ vs.length by omega)] at hlenT
                      have hlenD := flat_len (vs.drop k)
                      rw [List.length_drop, hvl] at hlenD
                      have HLT := Lib.hid hlenT
                      have HLD := Lib.hid hlenD
                      clear hlenT hlenD
                      have cF2 := (old_F HLG.out HAF.out HQ.out (Below.refl _ _)).1
                      obtain ⟨i0, hi0, hz0, hz1, hz2⟩ := info_parts info36
                      have HS1 := Lib.hid (show ∀ j u, ((vs.take k).flatMap pcells)[j]? = some u → wq.cell? (ad2.add j) = some u from fun j u hj => old_cells HLG.out HAF.out HQ.out (Below.refl _ _) j u (flat_take_at hj))
                      go_wp2_with (at_builtin; first | (refine wpList_append_may _ rfl _ _ 23 rfl wq.heap.size 36 i0 _ 6 96 Try.underlying23 hi0 hz0 hz1 hz2 rfl (by decide) v2 (0 + k + 1) ([] ++ (vs.take k).flatMap pcells ++ pcells (key, h')) rfl HO2.out (some (ad2.add (k * 6))) 0 (d' - k) ((vs.drop k).flatMap pcells) rfl (by rw [HDN.out]; rfl) (.inl ⟨_, rfl, fun j u hj => by rw [HDN.out] at hj; cases hj⟩) (flat_one _) (by unfold maxLen; omega) (by omega) h2.out.size ?_; intro v3 w3 hown3 hgrow3 hat3; have h3 := Lib.hid (grow_three HG1.out HT1.out HG2.out HT2.out hgrow3); have zF := (old_F HLG.out HAF.out HQ.out h3.out); obtain ⟨cF4, fF4⟩ := zF; have hown4 : w3.ownsRow wq.heap.size 36 6 v3 (k + 1) ((putP vs (key, h')).flatMap pcells) := (by rw [← put_flat HST.out]; exact (show (0 + k + 1 + 0) = k + 1 from by omega) ▸ hown3); obtain ⟨g, cap, hv3, -, -⟩ := hown4.form (by omega); subst hv3; have HO4 := Lib.hid hown4; clear hown3 hown4 hgrow3 hat3) | (refine wpList_append_may _ rfl _ _ 23 rfl wq.heap.size 36 i0 _ 6 96 Try.underlying23 hi0 hz0 hz1 hz2 rfl (by decide) v1 (0 + k) ([] ++ (vs.take k).flatMap pcells) rfl (own_below HO1.out (one_alloc w1 _) (Nat.le_refl _)) (some ⟨w1.heap.size, 0, none⟩) 1 1 (pcells (key, h')) rfl rfl (.inl ⟨_, rfl, World.news_of_block (heap_alloc_new w1 _)⟩) (by simp [pcells, Hd.cells, Value.oneCell']) (by unfold maxLen; omega) (by omega) (Nat.le_trans HG1.out.size (by simp)) ?_; intro v2 w2 hown2 hgrow2 hat2; have h2 := Lib.hid (grow_two HG1.out HT1.out hgrow2); have cF3 := (old_F HLG.out HAF.out HQ.out h2.out).1; have HG2 := Lib.hid hgrow2; have HO2 := Lib.hid hown2; have HT2 := Lib.hid hat2; clear hown2 hgrow2 hat2) | (refine wpList_append_may _ rfl _ _ 23 rfl wq.heap.size 36 i0 _ 6 96 Try.underlying23 hi0 hz0 hz1 hz2 rfl (by decide) (.slice none 0 0) 0 [] rfl (World.ownsRow_nil _ _ _ _) (some ad2) k d' ((vs.take k).flatMap pcells) rfl HLT.out (.inl ⟨ad2, rfl, HS1.out⟩) (flat_one _) (by unfold maxLen; omega) (by omega) (Nat.le_refl _) ?_; intro v1 w1 hown1 hgrow1 hat1; obtain ⟨q0, q1, q2, q3, q4, q5⟩ := aft_cells HAF.out HQ.out hgrow1; have HG1 := Lib.hid hgrow1; have HO1 := Lib.hid hown1; have HT1 := Lib.hid hat1; clear hown1 hgrow1 hat1))
                      go_roundw
                      case rel =>
                        exact ⟨_, putP vs (key, h'), some ⟨g, 0, none⟩, cap, by go_num, HLG.out.step hWd HX.out HAF.out HQ.out h3.out HO4.out⟩
                      case measure => simp [intOf]; omega
          · have hie : i = f.length := by omega
            subst hie
            have hres := rowIs_below' (B := 0) HA.out.res (hkall.out.block (w.heap.size + 1) (by omega) HA.out.res.lt)
            have z0 := hres.cell (show 0 < 5 by decide)
            have z1 := hres.cell (show 1 < 5 by decide)
            have z2 := hres.cell (show 2 < 5 by decide)
            have z3 := hres.cell (show 3 < 5 by decide)
            have z4 := hres.cell (show 4 < 5 by decide)
            have g0 := hres.frozen 0
            have g1 := hres.frozen 1
            have g2 := hres.frozen 2
            have g3 := hres.frozen 3
            have g4 := hres.frozen 4
            have hrw := HLG.out.row
            have r0 := hrw.cell (show 0 < 5 by decide)
            have r1 := hrw.cell (show 1 < 5 by decide)
            have r2 := hrw.cell (show 2 < 5 by decide)
            have r3 := hrw.cell (show 3 < 5 by decide)
            have r4 := hrw.cell (show 4 < 5 by decide)
            have HOW := Lib.hid (srt_done HL0.out HLL.out HLG.out hWc)
            have hSz := HA.out.bel.size
            have hszr := hkall.out.size
            clear hres hrw
            simp only [hdAt, Hd.cells, List.getD_cons_succ, List.getD_cons_zero] at z0 z1 z2 z3 z4 r0 r1 r2 r3 r4
            go_wp2_with fail
            refine bodyPost_ret (v := .agg #[.int .i64 hk, .int .i64 hnn, .string hs, .slice A' l.length c', .slice F' f.length d']) (by simp [results, Try.results25, go_sem, z0, z1, z2, z3, z4]) rfl ?_
            have hset : ∀ b, b ≠ w.heap.size + 1 → (((((wr.setCell ⟨w.heap.size + 1, 0, none⟩ (.int .i64 hk)).setCell ⟨w.heap.size + 1, 1, none⟩ (.int .i64 hnn)).setCell ⟨w.heap.size + 1, 2, none⟩ (.string hs)).setCell ⟨w.heap.size + 1, 3, none⟩ (.slice A' l.length c')).setCell ⟨w.heap.size + 1, 4, none⟩ (.slice F' f.length d')).heap[b]? = wr.heap[b]? := fun b hb => by
              rw [Below.heap_setCell _ _ _ _ hb, Below.heap_setCell _ _ _ _ hb, Below.heap_setCell _ _ _ _ hb, Below.heap_setCell _ _ _ _ hb, Below.heap_setCell _ _ _ _ hb]
            have hbw : Below w.heap.size w wr := HA.out.bel.trans (hkall.out.bel.mono (by omega))
            refine ⟨⟨hk, hnn, hs, A', l.length, c', F', f.length, d'⟩, rfl, Lies.keep (fun q (a1 : wc.heap.size ≤ q.block) a2 => World.cell?_of_block (hset _ (by omega))) (fun b (hb : wc.heap.size ≤ b) _ => (show w.heap.size ≤ b by omega)) _ _ HOW.out, ?_⟩
            exact ((((hbw.setCell (Nat.le_succ _) _).setCell (Nat.le_succ _) _).setCell (Nat.le_succ _) _).setCell (Nat.le_succ _) _).setCell (Nat.le_succ _) _
end Go.Proofs.Ytlhmdbloddpfbaa
