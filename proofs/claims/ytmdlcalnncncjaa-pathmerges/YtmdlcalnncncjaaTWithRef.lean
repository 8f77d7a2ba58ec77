/- The reference's With, walked. -/
import Derived.Test.YtmdlcalnncncjaaTWithL
set_option linter.unusedVariables false
set_option linter.unusedSimpArgs false
namespace Go.Proofs.Ytmdlcalnncncjaa
open Go.RowKit Classical
theorem cur_gr {W o : Nat} {wr wq w3 : World} {v : Value} {row : Option Nat} (hc : wr.cell? ⟨W, o, none⟩ = some v) (hb : Below wr.heap.size wr wq) (hg : wq.grownBy w3 row) (hr : some W ≠ row) : w3.cell? ⟨W, o, none⟩ = some v :=
  (hg.cell_far ⟨W, o, none⟩ (Nat.lt_of_lt_of_le (World.block_lt_of_cell? wr _ hc) hb.size) hr).trans ((hb.cell (p := ⟨W, o, none⟩) (World.block_lt_of_cell? wr _ hc)).trans hc)
theorem cur_grf {W o : Nat} {wr wq w3 : World} {v : Value} {row : Option Nat} (hc : wr.cell? ⟨W, o, none⟩ = some v) (hf : wr.frozen? ⟨W, o, none⟩ = false) (hb : Below wr.heap.size wr wq) (hg : wq.grownBy w3 row) (hr : some W ≠ row) : w3.frozen? ⟨W, o, none⟩ = false :=
  (hg.frozen_far ⟨W, o, none⟩ (Nat.lt_of_lt_of_le (World.block_lt_of_cell? wr _ hc) hb.size) hr).trans ((hb.frozen (p := ⟨W, o, none⟩) (World.block_lt_of_cell? wr _ hc)).trans hf)
theorem two_allocs (wr : World) (o1 o2 : Obj) : Below wr.heap.size wr ((wr.alloc o1).alloc o2) := ((Below.refl _ _).alloc (Nat.le_refl _) _).alloc (by simp) _
theorem one_alloc (wr : World) (o1 : Obj) : Below wr.heap.size wr (wr.alloc o1) := (Below.refl _ _).alloc (Nat.le_refl _) _
theorem news_two (wr : World) (o1 : Obj) (cs : Array Value) (t : TypeId) : ∀ (j : Nat) u, cs.toList[j]? = some u → ((wr.alloc o1).alloc (.cells cs t)).cell? ((⟨wr.heap.size + 1, 0, none⟩ : Addr).add j) = some u := by
  have h := World.news_of_block (heap_alloc_new (wr.alloc o1) (.cells cs t))
  rwa [World.size_alloc] at h
/-- What the reference's With answers. -/
def WithR (a : Va) (w : World) (e : Ending) (w' : World) : Prop := ∃ h', e = .returned (.agg #[.int .i64 h'.k, .int .i64 h'.n, .string h'.s, .slice h'.A h'.la h'.lc, .slice h'.F h'.lf h'.fc]) ∧ Lies w' (fun _ => True) a h' ∧ Below w.heap.size w w'
set_option maxHeartbeats 2000000 in
set_option maxRecDepth 100000 in
theorem with_ref (k n : Int) (s : ByteArray) (l : List Va) (ks : List ByteArray) (f : List Va) (x : Va) (S S' : Nat → Prop) (h hx : Hd) (key : ByteArray) (w : World) (H : Lies w S (.mk k n s l ks f) h) (HX : Lies w S' x hx) (hkm : ∀ y ∈ ks, y.size ≤ maxLen) (hks : key.size ≤ maxLen) (hfl : f.length ≤ 1000) :
    Calls Try.prog 33 #[h.val, .string key, hx.val] w fun e w' => WithR (.mk 5 0 ByteArray.empty [] (ksW ks key) (fW ks f key x)) w e w' := by
  have Hop := Lib.hid H.op
  have HXL := Lib.hid (show Lies w (fun b => b < w.heap.size) x hx from Lies.keep (fun _ _ _ => rfl) (fun b _ hb => hb) _ _ HX)
  simp only [Lies] at H
  obtain ⟨⟨e1, e2, e3, e4, e5, e6⟩, -, -, -⟩ := H
  clear HX e1 e2 e3 e4
  obtain ⟨hk, hnn, hs, A, la, lc, F, lf, fc⟩ := h
  simp only at e5
  subst e5
  have E6 := Lib.hid e6
  obtain ⟨i0, hi0, hz0, hz1, hz2⟩ := info_parts info36
  have hb4 : Below w.heap.size w ((((w.alloc (Obj.cells #[.int .i64 hk, .int .i64 hnn, .string hs, .slice A la lc, .slice F f.length fc] 25)).alloc (Obj.cells #[.int .i64 hx.k, .int .i64 hx.n, .string hx.s, .slice hx.A hx.la hx.lc, .slice hx.F hx.lf hx.fc] 25)).alloc (Obj.cells #[.int .i64 0, .int .i64 0, .string { data := #[] }, .slice none 0 0, .slice none 0 0] 25)).alloc (Obj.cells #[.int .i64 5, .int .i64 0, .string { data := #[] }, .slice none 0 0, .slice none 0 0] 25)) := (((one_alloc w _).alloc (by simp) _).alloc (by simp; omega) _).alloc (by simp; omega) _
  have hbv : Bx ((((w.alloc (Obj.cells #[.int .i64 hk, .int .i64 hnn, .string hs, .slice A la lc, .slice F f.length fc] 25)).alloc (Obj.cells #[.int .i64 hx.k, .int .i64 hx.n, .string hx.s, .slice hx.A hx.la hx.lc, .slice hx.F hx.lf hx.fc] 25)).alloc (Obj.cells #[.int .i64 0, .int .i64 0, .string { data := #[] }, .slice none 0 0, .slice none 0 0] 25)).alloc (Obj.cells #[.int .i64 5, .int .i64 0, .string { data := #[] }, .slice none 0 0, .slice none 0 0] 25)) w.heap.size (⟨hk, hnn, hs, A, la, lc, F, f.length, fc⟩ : Hd) := (((Bx.start w (⟨hk, hnn, hs, A, la, lc, F, f.length, fc⟩ : Hd) 25).alloc _).alloc _).alloc _
  have hbx : Bx ((((w.alloc (Obj.cells #[.int .i64 hk, .int .i64 hnn, .string hs, .slice A la lc, .slice F f.length fc] 25)).alloc (Obj.cells #[.int .i64 hx.k, .int .i64 hx.n, .string hx.s, .slice hx.A hx.la hx.lc, .slice hx.F hx.lf hx.fc] 25)).alloc (Obj.cells #[.int .i64 0, .int .i64 0, .string { data := #[] }, .slice none 0 0, .slice none 0 0] 25)).alloc (Obj.cells #[.int .i64 5, .int .i64 0, .string { data := #[] }, .slice none 0 0, .slice none 0 0] 25)) (w.heap.size + 1) hx := ((Bx.start' _ hx 25 (by simp)).alloc _).alloc _
  have hres : ((((w.alloc (Obj.cells #[.int .i64 hk, .int .i64 hnn, .string hs, .slice A la lc, .slice F f.length fc] 25)).alloc (Obj.cells #[.int .i64 hx.k, .int .i64 hx.n, .string hx.s, .slice hx.A hx.la hx.lc, .slice hx.F hx.lf hx.fc] 25)).alloc (Obj.cells #[.int .i64 0, .int .i64 0, .string { data := #[] }, .slice none 0 0, .slice none 0 0] 25)).alloc (Obj.cells #[.int .i64 5, .int .i64 0, .string { data := #[] }, .slice none 0 0, .slice none 0 0] 25)).rowIs (w.heap.size + 2) 25 5 zeroRes := by
    refine hdAt_row (h := zeroHd) ?_
    rw [Below.heap_alloc _ _ _ (by simp)]
    have h9 := heap_alloc_new ((w.alloc (Obj.cells #[.int .i64 hk, .int .i64 hnn, .string hs, .slice A la lc, .slice F f.length fc] 25)).alloc (Obj.cells #[.int .i64 hx.k, .int .i64 hx.n, .string hx.s, .slice hx.A hx.la hx.lc, .slice hx.F hx.lf hx.fc] 25)) (Obj.cells #[.int .i64 0, .int .i64 0, .string { data := #[] }, .slice none 0 0, .slice none 0 0] 25)
    rwa [World.size_alloc, World.size_alloc] at h9
  have hout : ((((w.alloc (Obj.cells #[.int .i64 hk, .int .i64 hnn, .string hs, .slice A la lc, .slice F f.length fc] 25)).alloc (Obj.cells #[.int .i64 hx.k, .int .i64 hx.n, .string hx.s, .slice hx.A hx.la hx.lc, .slice hx.F hx.lf hx.fc] 25)).alloc (Obj.cells #[.int .i64 0, .int .i64 0, .string { data := #[] }, .slice none 0 0, .slice none 0 0] 25)).alloc (Obj.cells #[.int .i64 5, .int .i64 0, .string { data := #[] }, .slice none 0 0, .slice none 0 0] 25)).rowIs (w.heap.size + 3) 25 5 (hdAt ⟨5, 0, ByteArray.empty, none, 0, 0, none, 0, 0⟩) := by
    refine hdAt_row (h := ⟨5, 0, ByteArray.empty, none, 0, 0, none, 0, 0⟩) ?_
    have h9 := heap_alloc_new (((w.alloc (Obj.cells #[.int .i64 hk, .int .i64 hnn, .string hs, .slice A la lc, .slice F f.length fc] 25)).alloc (Obj.cells #[.int .i64 hx.k, .int .i64 hx.n, .string hx.s, .slice hx.A hx.la hx.lc, .slice hx.F hx.lf hx.fc] 25)).alloc (Obj.cells #[.int .i64 0, .int .i64 0, .string { data := #[] }, .slice none 0 0, .slice none 0 0] 25)) (Obj.cells #[.int .i64 5, .int .i64 0, .string { data := #[] }, .slice none 0 0, .slice none 0 0] 25)
    rwa [World.size_alloc, World.size_alloc, World.size_alloc] at h9
  have hsz : ((((w.alloc (Obj.cells #[.int .i64 hk, .int .i64 hnn, .string hs, .slice A la lc, .slice F f.length fc] 25)).alloc (Obj.cells #[.int .i64 hx.k, .int .i64 hx.n, .string hx.s, .slice hx.A hx.la hx.lc, .slice hx.F hx.lf hx.fc] 25)).alloc (Obj.cells #[.int .i64 0, .int .i64 0, .string { data := #[] }, .slice none 0 0, .slice none 0 0] 25)).alloc (Obj.cells #[.int .i64 5, .int .i64 0, .string { data := #[] }, .slice none 0 0, .slice none 0 0] 25)).heap.size = w.heap.size + 4 := by simp
  unfold Hd.val
  simp only
  go_enter Try.func33, Try.ntmps33
  go_wp2_with fail
  generalize ((((w.alloc (Obj.cells #[.int .i64 hk, .int .i64 hnn, .string hs, .slice A la lc, .slice F f.length fc] 25)).alloc (Obj.cells #[.int .i64 hx.k, .int .i64 hx.n, .string hx.s, .slice hx.A hx.la hx.lc, .slice hx.F hx.lf hx.fc] 25)).alloc (Obj.cells #[.int .i64 0, .int .i64 0, .string { data := #[] }, .slice none 0 0, .slice none 0 0] 25)).alloc (Obj.cells #[.int .i64 5, .int .i64 0, .string { data := #[] }, .slice none 0 0, .slice none 0 0] 25)) = wd at hb4 hbv hbx hres hout hsz ⊢
  have HB4 := Lib.hid hb4
  have HBV := Lib.hid hbv
  have HBX := Lib.hid hbx
  have HRES := Lib.hid hres
  clear hb4 hbv hbx hres
  go_loopw [8, 9] (fun hv iv wr => ∃ (i : Nat) (vs : List Hd) (F' : Option Addr) (c' : Nat), iv = .int .i64 i ∧ i ≤ f.length ∧ hv = .bool (decide (key ∈ ks.take i)) ∧ LoopW wd (w.heap.size + 3) (ksW ks key) (fW ks f key x) (fun b => b < w.heap.size) i wr vs F' c') (fun _ iv _ => f.length - (intOf iv).toNat)
  case atStart => exact ⟨0, [], none, 0, rfl, Nat.zero_le _, by simp, ⟨Kp.refl _ _, hout, World.ownsRow_nil _ _ _ _, rfl, fun j y u _ hu => by simp at hu⟩⟩
  case round =>
    obtain ⟨i, vs, F', c', rfl, hi, rfl, hLW⟩ := hrel
    have HLW := Lib.hid hLW
    have cO := hLW.row.cell (show 4 < 5 by decide)
    have fO := hLW.row.frozen 4
    have HRO := Lib.hid (show some (w.heap.size + 3) ≠ (Value.slice F' i c').ownBlock from fun e => by have := own_lo hLW.own e.symm; omega)
    have hbvr := HBV.out.kp hLW.kp (show w.heap.size ≠ w.heap.size + 3 by omega)
    have hbxr := HBX.out.kp hLW.kp (show w.heap.size + 1 ≠ w.heap.size + 3 by omega)
    have cF := hbvr.2 4 _ rfl
    have x0 := hbxr.2 0 _ rfl
    have x1 := hbxr.2 1 _ rfl
    have x2 := hbxr.2 2 _ rfl
    have x3 := hbxr.2 3 _ rfl
    have x4 := hbxr.2 4 _ rfl
    have hszr := hLW.kp.size
    have hOr := hLW.row.lt
    have hXr := hbxr.1
    simp only [hdAt, Hd.cells, List.getD_cons_succ, List.getD_cons_zero] at cO
    clear hLW hbvr hbxr
    by_cases hlt : i < f.length
    · have hik : i < ks.length := by have := E6.out; omega
      obtain ⟨ad, u, k2, hF, _, hbl, hk2, _, hLu, hcell⟩ := Hop.out.K i _ (List.getElem?_eq_getElem hlt)
      have hcell2 := hcell.below HB4.out hbl
      obtain ⟨k0, k1, k2', k3, k4, k5⟩ := hcell2.kp HLW.out.kp (by omega) (by omega)
      have HLu := Lib.hid (show Lies wd (fun b => b < w.heap.size) f[i] u from Lies.keep (fun p _ hp => HB4.out.cell hp) (fun b _ hb => hb) _ _ hLu)
      have HK2 := Lib.hid hk2
      have G1 := Lib.hid (List.getElem?_eq_getElem hlt)
      obtain rfl : F = some ad := hF
      clear hcell hcell2 hLu hk2
      by_cases hkk : k2 = key
      · have hkk' := bytes_eq hkk
        have hmem : Hid (key ∈ ks.take (i + 1)) := by rw [take_next HK2.out]; exact List.mem_append_right _ (by simp [hkk])
        have HY := Lib.hid (show (fW ks f key x)[i]? = some x by rw [fW_at HK2.out G1.out, if_pos hkk])
        clear hkk
        go_wp2_with (at_builtin; refine wpList_append_lies _ rfl _ _ 23 rfl wd.heap.size 36 i0 _ 6 96 Try.underlying23 hi0 hz0 hz1 hz2 rfl (by decide) (.slice F' i c') i ((((ksW ks key).take i).zip vs).flatMap pcells) rfl (own_below HLW.out.own (two_allocs wr _ _) (Nat.le_refl _)) ⟨wr.heap.size + 1, 0, none⟩ 1 1 (pcells (k2, hx)) rfl rfl (news_two wr _ _ _) (by simp [pcells, Hd.cells, Value.oneCell']) (by decide) (by unfold maxLen; omega) (by omega) (Nat.le_trans HLW.out.kp.size ((two_allocs wr _ _)).size) _ rfl ?_; intro g cap w3 hown3 hgrow3 hat3 hlt3; have cO3 := cur_gr cO ((two_allocs wr _ _)) hgrow3 HRO.out; have fO3 := cur_grf cO fO ((two_allocs wr _ _)) hgrow3 HRO.out)
        exact ⟨⟨i + 1, _, _, _, by go_num, by omega, by rw [decide_eq_true hmem.out], HLW.out.step (by omega) HY.out ((ksW_at hik).trans HK2.out) (HXL.out.below HB4.out (Nat.le_refl _)) (two_allocs wr _ _) hown3 hgrow3 hat3⟩, by simp [intOf]; omega⟩
      · have hkk' := bytes_ne hkk
        have HY := Lib.hid (show (fW ks f key x)[i]? = some f[i] by rw [fW_at HK2.out G1.out, if_neg hkk])
        have hmem : Hid ((decide (key ∈ ks.take i)) = decide (key ∈ ks.take (i + 1))) := by
          show _ = _
          rw [take_next HK2.out]
          have : (key ∈ ks.take i ++ [k2]) ↔ key ∈ ks.take i := by
            rw [List.mem_append]
            constructor
            · rintro (h | h)
              · exact h
              · simp at h; exact absurd h.symm hkk
            · exact .inl
          exact (decide_eq_decide.2 this).symm
        generalize hdb : decide (key ∈ ks.take i) = db at *
        clear hkk
        go_wp2_with (at_builtin; refine wpList_append_lies _ rfl _ _ 23 rfl wd.heap.size 36 i0 _ 6 96 Try.underlying23 hi0 hz0 hz1 hz2 rfl (by decide) (.slice F' i c') i ((((ksW ks key).take i).zip vs).flatMap pcells) rfl (own_below HLW.out.own (two_allocs wr _ _) (Nat.le_refl _)) ⟨wr.heap.size + 1, 0, none⟩ 1 1 (pcells (k2, u)) rfl rfl (news_two wr _ _ _) (by simp [pcells, Hd.cells, Value.oneCell']) (by decide) (by unfold maxLen; omega) (by omega) (Nat.le_trans HLW.out.kp.size ((two_allocs wr _ _)).size) _ rfl ?_; intro g cap w3 hown3 hgrow3 hat3 hlt3; have cO3 := cur_gr cO ((two_allocs wr _ _)) hgrow3 HRO.out; have fO3 := cur_grf cO fO ((two_allocs wr _ _)) hgrow3 HRO.out)
        exact ⟨⟨i + 1, _, _, _, by go_num, by omega, by rw [hmem.out], HLW.out.step (by omega) HY.out ((ksW_at hik).trans HK2.out) HLu.out (two_allocs wr _ _) hown3 hgrow3 hat3⟩, by simp [intOf]; omega⟩
    · obtain rfl : i = f.length := by omega
      have htk : ks.take f.length = ks := List.take_of_length_le (by have := E6.out; omega)
      by_cases hin : key ∈ ks
      · have hd : decide (key ∈ ks.take f.length) = true := by rw [htk]; exact decide_eq_true hin
        have HIN := Lib.hid hin
        rw [hd]
        have hres := rowIs_below' (B := 0) HRES.out (HLW.out.kp.block (w.heap.size + 2) (by omega) HRES.out.lt)
        have r0 := HLW.out.row.cell (show 0 < 5 by decide)
        have r1 := HLW.out.row.cell (show 1 < 5 by decide)
        have r2 := HLW.out.row.cell (show 2 < 5 by decide)
        have r3 := HLW.out.row.cell (show 3 < 5 by decide)
        simp only [hdAt, Hd.cells, List.getD_cons_succ, List.getD_cons_zero] at r0 r1 r2 r3
        have z0 := hres.cell (show 0 < 5 by decide)
        have z1 := hres.cell (show 1 < 5 by decide)
        have z2 := hres.cell (show 2 < 5 by decide)
        have z3 := hres.cell (show 3 < 5 by decide)
        have z4 := hres.cell (show 4 < 5 by decide)
        have g0 := hres.frozen 0
        have g1 := hres.frozen 1
        have g2 := hres.frozen 2
        have g3 := hres.frozen 3
        have g4 := hres.frozen 4
        simp only [hdAt, Hd.cells, List.getD_cons_succ, List.getD_cons_zero] at z0 z1 z2 z3 z4
        clear hres hd hin htk
        go_wp2_with fail
        refine bodyPost_ret (v := .agg #[.int .i64 5, .int .i64 0, .string ByteArray.empty, .slice none 0 0, .slice F' f.length c']) (by simp [results, Try.results33, go_sem, z0, z1, z2, z3, z4]; try rfl) rfl ?_
        have hbw : Below w.heap.size w wr := HB4.out.trans (HLW.out.kp.bel.mono (by omega))
        refine ⟨⟨5, 0, ByteArray.empty, none, 0, 0, F', f.length, c'⟩, rfl, ?_, res_below hbw (by omega)⟩
        exact HLW.out.done (by rw [ksW_len_in HIN.out]; exact E6.out.symm) (fW_len E6.out).symm (by intro y hy; unfold ksW at hy; rw [if_pos HIN.out] at hy; exact hkm y hy) (by rw [fW_len E6.out, ksW_len_in HIN.out]; have := E6.out; unfold maxLen; omega) (fun b hb => by omega) (fun b hb hs => res_set (w := w) b (by rcases hs with h | h <;> omega))
      · have hd : decide (key ∈ ks.take f.length) = false := by rw [htk]; exact decide_eq_false hin
        have HIN := Lib.hid hin
        rw [hd]
        have hik : (ksW ks key)[f.length]? = some key := by rw [← E6.out]; exact ksW_last hin
        have hfk : (fW ks f key x)[f.length]? = some x := by rw [← E6.out]; exact fW_last E6.out hin
        have HIK := Lib.hid hik
        have HFK := Lib.hid hfk
        clear hd hin htk hik hfk
        have HRR := Lib.hid (show some (w.heap.size + 2) ≠ (Value.slice F' f.length c').ownBlock from fun e => by have := own_lo HLW.out.own e.symm; omega)
        have hres := rowIs_below' (B := 0) HRES.out (HLW.out.kp.block (w.heap.size + 2) (by omega) HRES.out.lt)
        have r0 := HLW.out.row.cell (show 0 < 5 by decide)
        have r1 := HLW.out.row.cell (show 1 < 5 by decide)
        have r2 := HLW.out.row.cell (show 2 < 5 by decide)
        have r3 := HLW.out.row.cell (show 3 < 5 by decide)
        simp only [hdAt, Hd.cells, List.getD_cons_succ, List.getD_cons_zero] at r0 r1 r2 r3
        have z0 := hres.cell (show 0 < 5 by decide)
        have z1 := hres.cell (show 1 < 5 by decide)
        have z2 := hres.cell (show 2 < 5 by decide)
        have z3 := hres.cell (show 3 < 5 by decide)
        have z4 := hres.cell (show 4 < 5 by decide)
        have g0 := hres.frozen 0
        have g1 := hres.frozen 1
        have g2 := hres.frozen 2
        have g3 := hres.frozen 3
        have g4 := hres.frozen 4
        simp only [hdAt, Hd.cells, List.getD_cons_succ, List.getD_cons_zero] at z0 z1 z2 z3 z4
        clear hres
        go_wp2_with (at_builtin; refine wpList_append_lies _ rfl _ _ 23 rfl wd.heap.size 36 i0 _ 6 96 Try.underlying23 hi0 hz0 hz1 hz2 rfl (by decide) (.slice F' f.length c') f.length ((((ksW ks key).take f.length).zip vs).flatMap pcells) rfl (own_below HLW.out.own (one_alloc wr _) (Nat.le_refl _)) ⟨wr.heap.size, 0, none⟩ 1 1 (pcells (key, hx)) rfl rfl (World.news_of_block (heap_alloc_new wr _)) (by simp [pcells, Hd.cells, Value.oneCell']) (by decide) (by unfold maxLen; omega) (by omega) (Nat.le_trans HLW.out.kp.size ((one_alloc wr _)).size) _ rfl ?_; intro g cap w3 hown3 hgrow3 hat3 hlt3; have cO3 := cur_gr cO ((one_alloc wr _)) hgrow3 HRO.out; have fO3 := cur_grf cO fO ((one_alloc wr _)) hgrow3 HRO.out; have R0 := cur_gr r0 (one_alloc wr _) hgrow3 HRO.out; have R1 := cur_gr r1 (one_alloc wr _) hgrow3 HRO.out; have R2 := cur_gr r2 (one_alloc wr _) hgrow3 HRO.out; have R3 := cur_gr r3 (one_alloc wr _) hgrow3 HRO.out; have Z0 := cur_gr z0 (one_alloc wr _) hgrow3 HRR.out; have Z1 := cur_gr z1 (one_alloc wr _) hgrow3 HRR.out; have Z2 := cur_gr z2 (one_alloc wr _) hgrow3 HRR.out; have Z3 := cur_gr z3 (one_alloc wr _) hgrow3 HRR.out; have Z4 := cur_gr z4 (one_alloc wr _) hgrow3 HRR.out; have G0 := cur_grf z0 g0 (one_alloc wr _) hgrow3 HRR.out; have G1 := cur_grf z1 g1 (one_alloc wr _) hgrow3 HRR.out; have G2 := cur_grf z2 g2 (one_alloc wr _) hgrow3 HRR.out; have G3 := cur_grf z3 g3 (one_alloc wr _) hgrow3 HRR.out; have G4 := cur_grf z4 g4 (one_alloc wr _) hgrow3 HRR.out)
        refine bodyPost_ret (v := .agg #[.int .i64 5, .int .i64 0, .string ByteArray.empty, .slice none 0 0, .slice (some ⟨g, 0, none⟩) (f.length + 1) cap]) (by simp [results, Try.results33, go_sem, Z0, Z1, Z2, Z3, Z4]; try rfl) rfl ?_
        have hst := HLW.out.step (by omega) HFK.out HIK.out (HXL.out.below HB4.out (Nat.le_refl _)) (one_alloc wr _) hown3 hgrow3 hat3
        have hbw : Below w.heap.size w _ := HB4.out.trans (hst.kp.bel.mono (by omega))
        refine ⟨⟨5, 0, ByteArray.empty, none, 0, 0, some ⟨g, 0, none⟩, f.length + 1, cap⟩, rfl, ?_, res_below hbw (by omega)⟩
        exact hst.done (by rw [ksW_len_out HIN.out, E6.out]) (fW_len E6.out).symm (by intro y hy; unfold ksW at hy; rw [if_neg HIN.out] at hy; rcases List.mem_append.1 hy with hy | hy; exact hkm y hy; simp at hy; subst hy; exact hks) (by rw [fW_len E6.out, ksW_len_out HIN.out]; have := E6.out; unfold maxLen; omega) (fun b hb => by omega) (fun b hb hs => res_set (w := w) b (by rcases hs with h | h <;> omega))
end Go.Proofs.Ytmdlcalnncncjaa
