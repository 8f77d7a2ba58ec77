/- The reference's Value; zero; awake. -/
import Derived.Test.YtmdlcalnncncjaaPRef
import Derived.Test.YtmdlcalnncncjaaTSam
set_option linter.unusedVariables false
set_option linter.unusedSimpArgs false
namespace Go.Proofs.Ytmdlcalnncncjaa
open Go.RowKit
set_option maxHeartbeats 2000000 in
set_option maxRecDepth 100000 in
theorem value_ref (p : List St) (A : Option Addr) (n c : Nat) (w : World) (hnl : n = p.length) (hn : p.length ≤ 1000) (hA : PathAt w A p) :
    Calls Try.prog 46 #[.slice A n c] w fun e w' => WithR (pathVa p) w e w' := by
  subst hnl
  have HA := Lib.hid hA
  obtain ⟨i0, hi0, hz0, hz1, hz2⟩ := info_parts info25
  clear hA
  have hres : ((w.alloc (Obj.cells #[.int .i64 0, .int .i64 0, .string { data := #[] }, .slice none 0 0, .slice none 0 0] 25)).alloc (Obj.cells #[.int .i64 4, .int .i64 0, .string { data := #[] }, .slice none 0 0, .slice none 0 0] 25)).rowIs w.heap.size 25 5 zeroRes := by
    refine hdAt_row (h := zeroHd) ?_
    rw [Below.heap_alloc _ _ _ (by simp)]
    exact heap_alloc_new _ _
  have hrow : ((w.alloc (Obj.cells #[.int .i64 0, .int .i64 0, .string { data := #[] }, .slice none 0 0, .slice none 0 0] 25)).alloc (Obj.cells #[.int .i64 4, .int .i64 0, .string { data := #[] }, .slice none 0 0, .slice none 0 0] 25)).rowIs (w.heap.size + 1) 25 5 (hdAt ⟨4, 0, ByteArray.empty, none, 0, 0, none, 0, 0⟩) := by
    refine hdAt_row (h := ⟨4, 0, ByteArray.empty, none, 0, 0, none, 0, 0⟩) ?_
    have h9 := heap_alloc_new (w.alloc (Obj.cells #[.int .i64 0, .int .i64 0, .string { data := #[] }, .slice none 0 0, .slice none 0 0] 25)) (Obj.cells #[.int .i64 4, .int .i64 0, .string { data := #[] }, .slice none 0 0, .slice none 0 0] 25)
    rwa [World.size_alloc] at h9
  have hbd := two_allocs w (Obj.cells #[.int .i64 0, .int .i64 0, .string { data := #[] }, .slice none 0 0, .slice none 0 0] 25) (Obj.cells #[.int .i64 4, .int .i64 0, .string { data := #[] }, .slice none 0 0, .slice none 0 0] 25)
  have hsd : ((w.alloc (Obj.cells #[.int .i64 0, .int .i64 0, .string { data := #[] }, .slice none 0 0, .slice none 0 0] 25)).alloc (Obj.cells #[.int .i64 4, .int .i64 0, .string { data := #[] }, .slice none 0 0, .slice none 0 0] 25)).heap.size = w.heap.size + 2 := by simp
  go_enter Try.func46, Try.ntmps46
  go_wp2_with fail
  generalize (w.alloc (Obj.cells #[.int .i64 0, .int .i64 0, .string { data := #[] }, .slice none 0 0, .slice none 0 0] 25)).alloc (Obj.cells #[.int .i64 4, .int .i64 0, .string { data := #[] }, .slice none 0 0, .slice none 0 0] 25) = wd at hres hrow hbd hsd ⊢
  have HBD := Lib.hid hbd
  have HRES := Lib.hid hres
  clear hbd hres
  go_loopw [4] (fun iv wr => ∃ (i : Nat) (A' : Option Addr) (c' : Nat), iv = .int .i64 i ∧ i ≤ p.length ∧ LoopP wd (w.heap.size + 1) p i wr A' c') (fun iv _ => p.length - (intOf iv).toNat)
  case atStart => exact ⟨0, none, 0, rfl, Nat.zero_le _, ⟨Kp.refl _ _, hrow, World.ownsRow_nil _ _ _ _, rfl, fun j y u _ hu => by simp at hu⟩⟩
  case round =>
    obtain ⟨i, A', c', rfl, hi, hLW⟩ := hrel
    have HLW := Lib.hid hLW
    have hkp := HLW.out.kp
    have cO := HLW.out.row.cell (show 3 < 5 by decide)
    have fO := HLW.out.row.frozen 3
    have hOr := HLW.out.row.lt
    have hszr := HLW.out.kp.size
    have HRO := Lib.hid (show some (w.heap.size + 1) ≠ (Value.slice A' i c').ownBlock from fun e => by have := own_lo HLW.out.own e.symm; omega)
    have HAr := Lib.hid (show PathAt wr A p from fun j s hs => by
      obtain ⟨ad, e, h1, h2, h3⟩ := HA.out j s hs
      have h4 := (h2.below HBD.out h1)
      refine ⟨ad, e, by omega, ⟨?_, ?_, ?_⟩, h3⟩
      · rw [hkp.cell (by omega) (by omega)]; exact h4.1
      · rw [hkp.cell (p := ⟨(ad.add (j * 3)).block, _, none⟩) (by show (ad.add (j * 3)).block ≠ _; omega) (by show (ad.add (j * 3)).block < _; omega)]; exact h4.2.1
      · rw [hkp.cell (p := ⟨(ad.add (j * 3)).block, _, none⟩) (by show (ad.add (j * 3)).block ≠ _; omega) (by show (ad.add (j * 3)).block < _; omega)]; exact h4.2.2)
    simp only [hdAt, Hd.cells, List.getD_cons_succ, List.getD_cons_zero] at cO
    clear hLW hkp
    by_cases hlt : i < p.length
    · obtain ⟨s, hs⟩ : ∃ s, p[i]? = some s := ⟨p[i], List.getElem?_eq_getElem hlt⟩
      obtain ⟨ad, rfl, hbl, hcell, hok⟩ := HAr.out i s hs
      obtain ⟨q0, q1, q2⟩ := hcell
      have HS := Lib.hid hs
      have HOK := Lib.hid hok
      clear hs hok HAr
      obtain ⟨sk, sa, si⟩ := s
      simp only at q0 q1 q2
      have hszw : wd.heap.size ≤ wr.heap.size := by omega
      cases si
      · go_wp2_with (at_builtin; refine wpList_append_lies _ rfl _ _ 22 rfl wd.heap.size 25 i0 _ 5 80 Try.underlying22 hi0 hz0 hz1 hz2 rfl (by decide) (.slice A' i c') i (((p.take i).map stHd).flatMap Hd.cells) rfl (own_below HLW.out.own (two_allocs wr _ _) (Nat.le_refl _)) ⟨wr.heap.size + 1, 0, none⟩ 1 1 (Hd.cells (stHd ⟨sk, sa, false⟩)) rfl rfl (news_two wr _ _ _) (by simp [stHd, Hd.cells, Value.oneCell']) (by decide) (by unfold maxLen; omega) (by omega) (Nat.le_trans hszw ((two_allocs wr _ _)).size) _ rfl ?_; intro g cap w3 hown3 hgrow3 hat3 hlt3; have cO3 := cur_gr cO ((two_allocs wr _ _)) hgrow3 HRO.out; have fO3 := cur_grf cO fO ((two_allocs wr _ _)) hgrow3 HRO.out)
        exact ⟨⟨i + 1, _, _, by go_num, by omega, LoopP.next HLW.out (by omega) HS.out HOK.out (two_allocs wr _ _) hown3 hgrow3 hat3⟩, by simp [intOf]; omega⟩
      · go_wp2_with (at_builtin; refine wpList_append_lies _ rfl _ _ 22 rfl wd.heap.size 25 i0 _ 5 80 Try.underlying22 hi0 hz0 hz1 hz2 rfl (by decide) (.slice A' i c') i (((p.take i).map stHd).flatMap Hd.cells) rfl (own_below HLW.out.own (two_allocs wr _ _) (Nat.le_refl _)) ⟨wr.heap.size + 1, 0, none⟩ 1 1 (Hd.cells (stHd ⟨sk, sa, true⟩)) rfl rfl (news_two wr _ _ _) (by simp [stHd, Hd.cells, Value.oneCell']) (by decide) (by unfold maxLen; omega) (by omega) (Nat.le_trans hszw ((two_allocs wr _ _)).size) _ rfl ?_; intro g cap w3 hown3 hgrow3 hat3 hlt3; have cO3 := cur_gr cO ((two_allocs wr _ _)) hgrow3 HRO.out; have fO3 := cur_grf cO fO ((two_allocs wr _ _)) hgrow3 HRO.out)
        exact ⟨⟨i + 1, _, _, by go_num, by omega, LoopP.next HLW.out (by omega) HS.out HOK.out (two_allocs wr _ _) hown3 hgrow3 hat3⟩, by simp [intOf]; omega⟩
    · obtain rfl : i = p.length := by omega
      have hres := rowIs_below' (B := 0) HRES.out (show wr.heap[w.heap.size]? = wd.heap[w.heap.size]? from HLW.out.kp.block w.heap.size (by omega) (by omega))
      have r0 := HLW.out.row.cell (show 0 < 5 by decide)
      have r1 := HLW.out.row.cell (show 1 < 5 by decide)
      have r2 := HLW.out.row.cell (show 2 < 5 by decide)
      have r4 := HLW.out.row.cell (show 4 < 5 by decide)
      simp only [hdAt, Hd.cells, List.getD_cons_succ, List.getD_cons_zero] at r0 r1 r2 r4
      have z0 := hres.cell (show 0 < 5 by decide)
      have z1 := hres.cell (show 1 < 5 by decide)
      have z2 := hres.cell (show 2 < 5 by decide)
      have z3 := hres.cell (show 3 < 5 by decide)
      have z4 := hres.cell (show 4 < 5 by decide)
      have g0 := hres.frozen 0
      have g1 := hres.frozen 1
      have g2 := hres.frozen 2
      have g3 := hres.frozen 3
      have g4 := hres.frozen 4
      simp only [hdAt, Hd.cells, List.getD_cons_succ, List.getD_cons_zero] at z0 z1 z2 z3 z4
      clear hres
      go_wp2_with fail
      refine bodyPost_ret (v := .agg #[.int .i64 4, .int .i64 0, .string ByteArray.empty, .slice A' p.length c', .slice none 0 0]) (by simp [results, Try.results46, go_sem, z0, z1, z2, z3, z4]; try rfl) rfl ?_
      have hbw : Below w.heap.size w wr := HBD.out.trans (HLW.out.kp.bel.mono (by omega))
      refine ⟨⟨4, 0, ByteArray.empty, A', p.length, c', none, 0, 0⟩, rfl, ?_, res_below hbw (Nat.le_refl _)⟩
      exact LoopV.done HLW.out (by simp) (by unfold maxLen; simp; omega) (by decide) (fun _ h => h.elim) (fun b hb hs => res_set (w := w) b (by rcases hs with h | h; exact h.elim; omega))
theorem zero_law6 (a : Va) (S : Nat → Prop) (h : Hd) (w : World) (H : Lies w S a h) : Calls Try.prog 44 #[h.val] w fun e w' => SameR a zeroVa w e w' := by
  have h1 := same_ref a zeroVa S (fun _ => True) h zeroHd (w.alloc (Obj.cells #[.int .i64 h.k, .int .i64 h.n, .string h.s, .slice h.A h.la h.lc, .slice h.F h.lf h.fc] 25)) (H.below ((Below.refl _ _).alloc (Nat.le_refl _) _) (Nat.le_refl _)) (lies_zero _ _)
  have H1 := Lib.hid h1
  clear h1 H
  unfold Hd.val at *
  go_enter Try.func44, Try.ntmps44
  go_wp2_with fail
  refine H1.out.mono ?_
  rintro e w1 ⟨r, rfl, hr, hb1⟩
  have HR := Lib.hid hr
  have HB := Lib.hid (after_alloc hb1).1
  clear hr hb1 H1
  go_wp2_with fail
  go_ret
  exact ⟨r, rfl, HR.out, HB.out⟩
/-- The path that awake asks. -/
abbrev place3 : St := ⟨⟨#[]⟩, 3, true⟩
theorem path3 (w : World) : PathAt (w.alloc (Obj.cells #[.string ⟨#[]⟩, .int .i64 3, .bool true] 72)) (some ⟨w.heap.size, 0, none⟩) [place3] := by
  intro i s hs
  have hi : i < 1 := (List.getElem?_eq_some_iff.1 hs).1
  obtain rfl : i = 0 := by omega
  simp at hs
  subst hs
  refine ⟨_, rfl, by rw [adb]; simp, ⟨?_, ?_, ?_⟩, by decide, by decide, by decide⟩
  · exact (World.cell?_alloc_new ..)
  · exact (World.cell?_alloc_new ..)
  · exact (World.cell?_alloc_new ..)
theorem right3 : PathR [place3] := ⟨by decide, fun s hs => by simp at hs; subst hs; exact .inl ⟨rfl, rfl, by decide, by decide⟩⟩
set_option maxHeartbeats 1000000 in
set_option maxRecDepth 100000 in
theorem awake6 (w : World) : Calls Try.prog 39 #[] w fun e w' => e = .returned (.bool true) ∧ Below w.heap.size w w' := by
  have H1 := Lib.hid (step_place 3 w)
  go_enter Try.func39, Try.ntmps39
  go_wp2_with fail
  refine H1.out.mono ?_
  rintro e w1 ⟨rfl, hb1⟩
  have HB1 := Lib.hid hb1
  have H2 := Lib.hid (value_prog [place3] _ 1 1 _ rfl (by decide) (path3 w1) (fun s hs => by simp at hs; subst hs; decide))
  clear hb1 H1
  go_wp2_with fail
  refine H2.out.mono ?_
  rintro e w2 ⟨b, h', er, rfl, hlies, hb2, hyes, -⟩
  obtain ⟨rfl, rfl⟩ := hyes right3
  have HB2 := Lib.hid (after_alloc hb2).1
  have hop := hlies.op
  simp only [pathVa, Lies] at hlies
  obtain ⟨⟨-, -, -, h4, -, -⟩, -⟩ := hlies
  obtain ⟨ad, u, hA, -, hbl, hLu, hat⟩ := hop.L 0 (stVa place3) rfl
  have hun : u.n = 3 := by
    simp only [stVa, Lies] at hLu
    exact hLu.1.2.1
  obtain ⟨hk, hnn, hs, A', la, lc, F', lf, fc⟩ := h'
  simp only at hA h4
  subst hA
  have h4' : la = 1 := h4
  subst h4'
  obtain ⟨k0, k1, k2, k3, k4⟩ := hat
  rw [hun] at k1
  simp only [Nat.zero_mul] at k0 k1 k2 k3 k4 hbl
  have e0 : ad.add 0 = ad := by simp [Addr.add]
  rw [e0] at k0 k1 k2 k3 k4 hbl
  clear hop hyes hb2 hLu h4 hun e0 H2
  simp only
  go_wp2_with fail
  go_ret
  exact ⟨rfl, HB1.out.trans ((HB2.out.trans ((one_alloc _ _).mono HB2.out.size)).mono HB1.out.size)⟩
end Go.Proofs.Ytmdlcalnncncjaa
