/- path.Value, and the reference's. -/
import Derived.Test.YtmdlcalnncncjaaPLoopV
set_option linter.unusedVariables false
set_option linter.unusedSimpArgs false
namespace Go.Proofs.Ytmdlcalnncncjaa
open Go.RowKit
/-- What Value answers: the path's value, or ErrArg. -/
def ValQ (p : List St) (w : World) (e : Ending) (w' : World) : Prop := ∃ (b : Va) (h' : Hd) (er : Int), e = .returned (.tuple #[.agg #[.int .i64 h'.k, .int .i64 h'.n, .string h'.s, .slice h'.A h'.la h'.lc, .slice h'.F h'.lf h'.fc], .int .i64 er]) ∧ Lies w' (fun _ => True) b h' ∧ Below w.heap.size w w' ∧
  (PathR p → er = 0 ∧ b = pathVa p) ∧ (¬ PathR p → er = 1 ∧ b = zeroVa)
set_option maxHeartbeats 2000000 in
set_option maxRecDepth 100000 in
theorem value_prog (p : List St) (A : Option Addr) (n c : Nat) (w : World) (hnl : n = p.length) (hn : p.length ≤ maxLen) (hA : PathAt w A p) (hkk : ∀ s ∈ p, s.k.size ≤ 4294967296) :
    Calls Try.prog 42 #[.slice A n c] w fun e w' => ValQ p w e w' := by
  subst hnl
  have hb0 := one_alloc w (Obj.cells #[.int .i64 0, .int .i64 0, .string { data := #[] }, .slice none 0 0, .slice none 0 0] 25)
  have H1 := Lib.hid (path_right p A p.length c (w.alloc (Obj.cells #[.int .i64 0, .int .i64 0, .string { data := #[] }, .slice none 0 0, .slice none 0 0] 25)) rfl hn (hA.below hb0 (Nat.le_refl _)))
  have HA := Lib.hid hA
  obtain ⟨i0, hi0, hz0, hz1, hz2⟩ := info_parts info25
  clear hA hb0
  go_enter Try.func42, Try.ntmps42
  go_wp2_with fail
  refine H1.out.mono ?_
  rintro e w1 ⟨r, rfl, hr, hb1⟩
  have HR := Lib.hid hr
  have hres := rowIs_below (hdAt_row (h := zeroHd) (heap_alloc_new w _)) hb1 (by simp)
  have HRES := Lib.hid hres
  have hbw := (after_alloc hb1).1
  have hlt := (after_alloc hb1).2.1
  have HBW := Lib.hid hbw
  clear hb1 hr H1 hres hbw
  cases r
  · have z0 := HRES.out.cell (show 0 < 5 by decide)
    have z1 := HRES.out.cell (show 1 < 5 by decide)
    have z2 := HRES.out.cell (show 2 < 5 by decide)
    have z3 := HRES.out.cell (show 3 < 5 by decide)
    have z4 := HRES.out.cell (show 4 < 5 by decide)
    have g0 := HRES.out.frozen 0
    have g1 := HRES.out.frozen 1
    have g2 := HRES.out.frozen 2
    have g3 := HRES.out.frozen 3
    have g4 := HRES.out.frozen 4
    simp only [hdAt, Hd.cells, List.getD_cons_succ, List.getD_cons_zero] at z0 z1 z2 z3 z4
    go_wp2_with fail
    refine bodyPost_ret (v := .tuple #[.agg #[.int .i64 0, .int .i64 0, .string ByteArray.empty, .slice none 0 0, .slice none 0 0], .int .i64 1]) (by simp [results, Try.results42, go_sem, z0, z1, z2, z3, z4]; try rfl) rfl ?_
    exact ⟨zeroVa, zeroHd, 1, rfl, lies_zero _ _, res_below HBW.out (Nat.le_refl _), fun h => absurd (HR.out.2 h) (by decide), fun _ => ⟨rfl, rfl⟩⟩
  · have HY := Lib.hid (HR.out.1 rfl)
    have hp30 := HY.out.1
    clear HR
    have hrow := hdAt_row (h := ⟨4, 0, ByteArray.empty, none, 0, 0, none, 0, 0⟩) (heap_alloc_new w1 (Obj.cells #[.int .i64 4, .int .i64 0, .string ByteArray.empty, .slice none 0 0, .slice none 0 0] 25))
    go_wp2_with fail
    have hrow2 : (w1.alloc (Obj.cells #[.int .i64 4, .int .i64 0, .string { data := #[] }, .slice none 0 0, .slice none 0 0] 25)).rowIs w1.heap.size 25 5 (hdAt ⟨4, 0, ByteArray.empty, none, 0, 0, none, 0, 0⟩) := hrow
    have hbd := one_alloc w1 (Obj.cells #[.int .i64 4, .int .i64 0, .string { data := #[] }, .slice none 0 0, .slice none 0 0] 25)
    have hsd : (w1.alloc (Obj.cells #[.int .i64 4, .int .i64 0, .string { data := #[] }, .slice none 0 0, .slice none 0 0] 25)).heap.size = w1.heap.size + 1 := by simp
    generalize w1.alloc (Obj.cells #[.int .i64 4, .int .i64 0, .string { data := #[] }, .slice none 0 0, .slice none 0 0] 25) = wd at hrow2 hbd hsd ⊢
    have HBD := Lib.hid hbd
    clear hrow hbd
    go_loopw [15] (fun iv wr => ∃ (i : Nat) (A' : Option Addr) (c' : Nat), iv = .int .i64 i ∧ i ≤ p.length ∧ LoopP wd w1.heap.size p i wr A' c') (fun iv _ => p.length - (intOf iv).toNat)
    case atStart => exact ⟨0, none, 0, rfl, Nat.zero_le _, ⟨Kp.refl _ _, hrow2, World.ownsRow_nil _ _ _ _, rfl, fun j y u _ hu => by simp at hu⟩⟩
    case round =>
      obtain ⟨i, A', c', rfl, hi, hLW⟩ := hrel
      have HLW := Lib.hid hLW
      have hkp := HLW.out.kp
      have cO := HLW.out.row.cell (show 3 < 5 by decide)
      have fO := HLW.out.row.frozen 3
      have hOr := HLW.out.row.lt
      have hszr := HLW.out.kp.size
      have HRO := Lib.hid (show some w1.heap.size ≠ (Value.slice A' i c').ownBlock from fun e => by have := own_lo HLW.out.own e.symm; omega)
      have HAr := Lib.hid (show PathAt wr A p from fun j s hs => by
        obtain ⟨ad, e, h1, h2, h3⟩ := (HA.out.below HBW.out (Nat.le_refl _)) j s hs
        have h4 := (h2.below HBD.out h1)
        refine ⟨ad, e, by omega, ⟨?_, ?_, ?_⟩, h3⟩
        · rw [hkp.cell (by omega) (by omega)]; exact h4.1
        · rw [hkp.cell (p := ⟨(ad.add (j * 3)).block, _, none⟩) (by show (ad.add (j * 3)).block ≠ _; omega) (by show (ad.add (j * 3)).block < _; omega)]; exact h4.2.1
        · rw [hkp.cell (p := ⟨(ad.add (j * 3)).block, _, none⟩) (by show (ad.add (j * 3)).block ≠ _; omega) (by show (ad.add (j * 3)).block < _; omega)]; exact h4.2.2)
      simp only [hdAt, Hd.cells, List.getD_cons_succ, List.getD_cons_zero] at cO
      clear hLW hkp
      by_cases hlt : i < p.length
      · obtain ⟨s, hs⟩ : ∃ s, p[i]? = some s := ⟨p[i], List.getElem?_eq_getElem hlt⟩
        obtain ⟨ad, rfl, hbl, hcell, hok⟩ := HAr.out i s hs
        obtain ⟨q0, q1, q2⟩ := hcell
        have HS := Lib.hid hs
        have HOK := Lib.hid hok
        have hsr : Hid (StR s) := Lib.hid (HY.out.2 s (List.mem_of_getElem? hs))
        clear hs hok HAr
        have HKK := Lib.hid (hkk s (List.mem_of_getElem? HS.out))
        obtain ⟨sk, sa, si⟩ := s
        simp only at q0 q1 q2 HKK
        go_wp2_with fail
        refine (clone_any sk HKK.out _).mono ?_
        rintro e w5 ⟨rfl, hb5⟩
        obtain ⟨hb5w, hlt5, hc5⟩ := after_alloc hb5
        have y1 := hc5 1 _ rfl
        have y2 := hc5 2 _ rfl
        have cO5 := (hb5w.cell (p := ⟨w1.heap.size, 3, none⟩) hOr).trans cO
        have fO5 := (hb5w.frozen (p := ⟨w1.heap.size, 3, none⟩) hOr).trans fO
        have HB5 := Lib.hid hb5w
        have HO5 := Lib.hid (own_below HLW.out.own hb5w (Nat.le_refl _))
        clear hb5 hb5w hc5 q0 q1 q2 cO fO
        have hOr5 : w1.heap.size < w5.heap.size := by omega
        have hszw5 : wd.heap.size ≤ w5.heap.size := by omega
        cases si
        · go_wp2_with (at_builtin; refine wpList_append_lies _ rfl _ _ 22 rfl wd.heap.size 25 i0 _ 5 80 Try.underlying22 hi0 hz0 hz1 hz2 rfl (by decide) (.slice A' i c') i (((p.take i).map stHd).flatMap Hd.cells) rfl (own_below HO5.out (two_allocs w5 _ _) (Nat.le_refl _)) ⟨w5.heap.size + 1, 0, none⟩ 1 1 (Hd.cells (stHd ⟨sk, sa, false⟩)) rfl rfl (news_two w5 _ _ _) (by simp [stHd, Hd.cells, Value.oneCell']) (by decide) (by unfold maxLen; omega) (by omega) (Nat.le_trans hszw5 ((two_allocs w5 _ _)).size) _ rfl ?_; intro g cap w3 hown3 hgrow3 hat3 hlt3; have cO3 := cur_gr cO5 ((two_allocs w5 _ _)) hgrow3 HRO.out; have fO3 := cur_grf cO5 fO5 ((two_allocs w5 _ _)) hgrow3 HRO.out)
          exact ⟨⟨i + 1, _, _, by go_num, by omega, LoopP.next HLW.out (by omega) HS.out HOK.out (HB5.out.trans ((two_allocs w5 _ _).mono HB5.out.size)) hown3 hgrow3 hat3⟩, by simp [intOf]; omega⟩
        · go_wp2_with (at_builtin; refine wpList_append_lies _ rfl _ _ 22 rfl wd.heap.size 25 i0 _ 5 80 Try.underlying22 hi0 hz0 hz1 hz2 rfl (by decide) (.slice A' i c') i (((p.take i).map stHd).flatMap Hd.cells) rfl (own_below HO5.out (two_allocs w5 _ _) (Nat.le_refl _)) ⟨w5.heap.size + 1, 0, none⟩ 1 1 (Hd.cells (stHd ⟨sk, sa, true⟩)) rfl rfl (news_two w5 _ _ _) (by simp [stHd, Hd.cells, Value.oneCell']) (by decide) (by unfold maxLen; omega) (by omega) (Nat.le_trans hszw5 ((two_allocs w5 _ _)).size) _ rfl ?_; intro g cap w3 hown3 hgrow3 hat3 hlt3; have cO3 := cur_gr cO5 ((two_allocs w5 _ _)) hgrow3 HRO.out; have fO3 := cur_grf cO5 fO5 ((two_allocs w5 _ _)) hgrow3 HRO.out)
          exact ⟨⟨i + 1, _, _, by go_num, by omega, LoopP.next HLW.out (by omega) HS.out HOK.out (HB5.out.trans ((two_allocs w5 _ _).mono HB5.out.size)) hown3 hgrow3 hat3⟩, by simp [intOf]; omega⟩
      · obtain rfl : i = p.length := by omega
        have hres := rowIs_below' (B := 0) HRES.out (show wr.heap[w.heap.size]? = w1.heap[w.heap.size]? by
          rw [HLW.out.kp.block w.heap.size (by omega) (by omega)]; exact HBD.out.block _ (by omega))
        have r0 := HLW.out.row.cell (show 0 < 5 by decide)
        have r1 := HLW.out.row.cell (show 1 < 5 by decide)
        have r2 := HLW.out.row.cell (show 2 < 5 by decide)
        have r4 := HLW.out.row.cell (show 4 < 5 by decide)
        simp only [hdAt, Hd.cells, List.getD_cons_succ, List.getD_cons_zero] at r0 r1 r2 r4
        have z0 := hres.cell (show 0 < 5 by decide)
        have z1 := hres.cell (show 1 < 5 by decide)
        have z2 := hres.cell (show 2 < 5 by decide)
        have z3 := hres.cell (show 3 < 5 by decide)
        have z4 := hres.cell (show 4 < 5 by decide)
        have g0 := hres.frozen 0
        have g1 := hres.frozen 1
        have g2 := hres.frozen 2
        have g3 := hres.frozen 3
        have g4 := hres.frozen 4
        simp only [hdAt, Hd.cells, List.getD_cons_succ, List.getD_cons_zero] at z0 z1 z2 z3 z4
        clear hres
        go_wp2_with fail
        refine bodyPost_ret (v := .tuple #[.agg #[.int .i64 4, .int .i64 0, .string ByteArray.empty, .slice A' p.length c', .slice none 0 0], .int .i64 0]) (by simp [results, Try.results42, go_sem, z0, z1, z2, z3, z4]; try rfl) rfl ?_
        have hbw : Below w.heap.size w wr := HBW.out.trans ((HBD.out.mono (by omega)).trans (HLW.out.kp.bel.mono (by omega)))
        refine ⟨pathVa p, ⟨4, 0, ByteArray.empty, A', p.length, c', none, 0, 0⟩, 0, rfl, ?_, res_below hbw (Nat.le_refl _), fun _ => ⟨rfl, rfl⟩, fun h => absurd HY.out h⟩
        exact LoopV.done HLW.out (by simp) (by simpa using hn) (by decide) (fun _ h => h.elim) (fun b hb hs => res_set (w := w) b (by rcases hs with h | h; exact h.elim; omega))
end Go.Proofs.Ytmdlcalnncncjaa
