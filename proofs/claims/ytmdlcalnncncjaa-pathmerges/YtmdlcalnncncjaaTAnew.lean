/- tree.anew, walked. -/
import Derived.Test.YtmdlcalnncncjaaTNewL
set_option linter.unusedVariables false
set_option linter.unusedSimpArgs false
namespace Go.Proofs.Ytmdlcalnncncjaa
open Go.RowKit
/-- The load of w.L in the drawn statement, under a name. -/
def ldL : Op := Op.load 22 (Operand.tmp 24)
def ldF : Op := Op.load 23 (Operand.tmp 40)
theorem info25 : (Try.prog.info? 25).map (fun i => (i.zero, i.size, i.bytes)) = some (some (.agg #[.int .i64 0, .int .i64 0, .string ByteArray.empty, .slice none 0 0, .slice none 0 0]), 5, 80) := by kernel_rfl
theorem info36 : (Try.prog.info? 36).map (fun i => (i.zero, i.size, i.bytes)) = some (some (.agg #[.string ByteArray.empty, .int .i64 0, .int .i64 0, .string ByteArray.empty, .slice none 0 0, .slice none 0 0]), 6, 96) := by kernel_rfl
set_option maxHeartbeats 1000000 in
set_option maxRecDepth 100000 in
theorem anew1_any : ∀ (a : Va) (S : Nat → Prop) (h : Hd) (w : World) (C : Nat), Lies w S a h → a.Sh → a.cnt ≤ 1000 → w.cell? ⟨C, 0, none⟩ = some (closA C) →
    Calls Try.prog 97 #[h.val, .pointer (some ⟨C, 0, none⟩)] w fun e w' => NewR a w e w' := by
  intro a
  induction a using Va.ind with
  | h k nn s l ks f ihl ihf =>
  intro S h w C H hsh hcn hcl
  have hC : C < w.heap.size := World.block_lt_of_cell? w _ hcl
  have Hop := H.op
  simp only [Lies] at H
  obtain ⟨⟨e1, e2, e3, e4, e5, e6⟩, ⟨b1, b2, b3, b4, b5, b6, b7, b8⟩, -, -⟩ := H
  simp only [Va.Sh] at hsh
  simp only [Va.cnt] at hcn
  obtain ⟨s1, s2, s3, s4⟩ := hsh
  have HSL := Lib.hid s2
  have HSK := Lib.hid s3
  have HSF := Lib.hid s4
  clear s2 s3 s4
  have hf1 := len_le_cntL f
  have hl1 := len_le_cntL l
  obtain ⟨hk, hnn, hs, A, la, lc, F, lf, fc⟩ := h
  simp only at e1 e2 e3 e4 e5 b7 b8
  subst e1 e2 e3 e4 e5
  unfold Hd.val
  simp only
  go_enter Try.func97, Try.ntmps97
  go_wp2_with fail
  have hbx0 := (Bx.start w ⟨hk, hnn, hs, A, l.length, lc, F, f.length, fc⟩ 25).alloc (Obj.cells #[.int .i64 0, .int .i64 0, .string { data := #[] }, .slice none 0 0, .slice none 0 0] 25)
  have hb0 : Below w.heap.size w ((w.alloc (Obj.cells #[.int .i64 hk, .int .i64 hnn, .string hs, .slice A l.length lc, .slice F f.length fc] 25)).alloc (Obj.cells #[.int .i64 0, .int .i64 0, .string { data := #[] }, .slice none 0 0, .slice none 0 0] 25)) := ((Below.refl _ _).alloc (Nat.le_refl _) _).alloc (by simp) _
  have hr0 : ∀ j, j < 5 → ((w.alloc (Obj.cells #[.int .i64 hk, .int .i64 hnn, .string hs, .slice A l.length lc, .slice F f.length fc] 25)).alloc (Obj.cells #[.int .i64 0, .int .i64 0, .string { data := #[] }, .slice none 0 0, .slice none 0 0] 25)).heap[w.heap.size + 1]? = some (Obj.cells #[.int .i64 0, .int .i64 0, .string { data := #[] }, .slice none 0 0, .slice none 0 0] 25) := fun j _ => by
    have h := heap_alloc_new (w.alloc (Obj.cells #[.int .i64 hk, .int .i64 hnn, .string hs, .slice A l.length lc, .slice F f.length fc] 25)) (Obj.cells #[.int .i64 0, .int .i64 0, .string { data := #[] }, .slice none 0 0, .slice none 0 0] 25)
    rwa [World.size_alloc] at h
  generalize hw0 : (w.alloc (Obj.cells #[.int .i64 hk, .int .i64 hnn, .string hs, .slice A l.length lc, .slice F f.length fc] 25)).alloc (Obj.cells #[.int .i64 0, .int .i64 0, .string { data := #[] }, .slice none 0 0, .slice none 0 0] 25) = w0 at hbx0 hb0 hr0 ⊢
  have q0 := hbx0.2 0 _ rfl
  have q1 := hbx0.2 1 _ rfl
  have q2 := hbx0.2 2 _ rfl
  have hz0 := hbx0.1
  have HX0 := Lib.hid hbx0
  have HB0 := Lib.hid hb0
  have HR0 := Lib.hid (hr0 0 (by decide))
  clear hbx0 hb0 hr0 hw0
  have hcl9 : ∀ wx : World, Calls Try.prog 77 #[.string hs] wx fun e w' => e = .returned (.string hs) ∧ Below wx.heap.size wx w' := fun wx => clone_any hs (by omega) wx
  have HCL := Lib.hid hcl9
  clear hcl9
  have hzd : w.heap.size < w0.drew.heap.size := hz0
  have hzd2 : w.heap.size < (w0.alloc (Obj.cells #[.int .i64 0, .int .i64 0, .string { data := #[] }, .slice none 0 0, .slice none 0 0] 25)).drew.heap.size := by show _ < (w0.alloc _).heap.size; simp; omega
  have hzd3 : w0.heap.size < (w0.alloc (Obj.cells #[.int .i64 0, .int .i64 0, .string { data := #[] }, .slice none 0 0, .slice none 0 0] 25)).drew.heap.size := by show _ < (w0.alloc _).heap.size; simp
  have hne1 : w.heap.size ≠ w0.heap.size := by omega
  have hne2 : w0.heap.size ≠ w.heap.size := by omega
  have d0 : (w0.alloc (Obj.cells #[.int .i64 0, .int .i64 0, .string { data := #[] }, .slice none 0 0, .slice none 0 0] 25)).drew.cell? ⟨w.heap.size, 0, none⟩ = some (.int .i64 hk) := (World.cell?_alloc_past _ _ _ hz0).trans q0
  have d1 : (w0.alloc (Obj.cells #[.int .i64 0, .int .i64 0, .string { data := #[] }, .slice none 0 0, .slice none 0 0] 25)).drew.cell? ⟨w.heap.size, 1, none⟩ = some (.int .i64 hnn) := (World.cell?_alloc_past _ _ _ hz0).trans q1
  have d2 : (w0.alloc (Obj.cells #[.int .i64 0, .int .i64 0, .string { data := #[] }, .slice none 0 0, .slice none 0 0] 25)).drew.cell? ⟨w.heap.size, 2, none⟩ = some (.string hs) := (World.cell?_alloc_past _ _ _ hz0).trans q2
  have m0 : (w0.alloc (Obj.cells #[.int .i64 0, .int .i64 0, .string { data := #[] }, .slice none 0 0, .slice none 0 0] 25)).drew.cell? ⟨w0.heap.size, 0, none⟩ = some (.int .i64 0) := World.cell?_alloc_new w0 _ _ 0
  have m1 : (w0.alloc (Obj.cells #[.int .i64 0, .int .i64 0, .string { data := #[] }, .slice none 0 0, .slice none 0 0] 25)).drew.cell? ⟨w0.heap.size, 1, none⟩ = some (.int .i64 0) := World.cell?_alloc_new w0 _ _ 1
  have m2 : (w0.alloc (Obj.cells #[.int .i64 0, .int .i64 0, .string { data := #[] }, .slice none 0 0, .slice none 0 0] 25)).drew.cell? ⟨w0.heap.size, 2, none⟩ = some (.string { data := #[] }) := World.cell?_alloc_new w0 _ _ 2
  have m3 : (w0.alloc (Obj.cells #[.int .i64 0, .int .i64 0, .string { data := #[] }, .slice none 0 0, .slice none 0 0] 25)).drew.cell? ⟨w0.heap.size, 3, none⟩ = some (.slice none 0 0) := World.cell?_alloc_new w0 _ _ 3
  have m4 : (w0.alloc (Obj.cells #[.int .i64 0, .int .i64 0, .string { data := #[] }, .slice none 0 0, .slice none 0 0] 25)).drew.cell? ⟨w0.heap.size, 4, none⟩ = some (.slice none 0 0) := World.cell?_alloc_new w0 _ _ 4
  have y0 : (w0.alloc (Obj.cells #[.int .i64 0, .int .i64 0, .string { data := #[] }, .slice none 0 0, .slice none 0 0] 25)).drew.frozen? ⟨w0.heap.size, 0, none⟩ = false := World.frozen?_alloc_new w0 _ _ 0
  have y1 : (w0.alloc (Obj.cells #[.int .i64 0, .int .i64 0, .string { data := #[] }, .slice none 0 0, .slice none 0 0] 25)).drew.frozen? ⟨w0.heap.size, 1, none⟩ = false := World.frozen?_alloc_new w0 _ _ 1
  have y2 : (w0.alloc (Obj.cells #[.int .i64 0, .int .i64 0, .string { data := #[] }, .slice none 0 0, .slice none 0 0] 25)).drew.frozen? ⟨w0.heap.size, 2, none⟩ = false := World.frozen?_alloc_new w0 _ _ 2
  have y3 : (w0.alloc (Obj.cells #[.int .i64 0, .int .i64 0, .string { data := #[] }, .slice none 0 0, .slice none 0 0] 25)).drew.frozen? ⟨w0.heap.size, 3, none⟩ = false := World.frozen?_alloc_new w0 _ _ 3
  have y4 : (w0.alloc (Obj.cells #[.int .i64 0, .int .i64 0, .string { data := #[] }, .slice none 0 0, .slice none 0 0] 25)).drew.frozen? ⟨w0.heap.size, 4, none⟩ = false := World.frozen?_alloc_new w0 _ _ 4
  go_cut [4] from 9 (fun p4 wc => ∃ W, p4 = .pointer (some ⟨W, 0, none⟩) ∧ AfterR w ⟨hk, hnn, hs, A, l.length, lc, F, f.length, fc⟩ W wc)
  case first =>
    go_region_held3 (fun w' => w'.cell? ⟨w.heap.size, 0, none⟩ = some (.int .i64 hk) ∧ w'.cell? ⟨w.heap.size, 1, none⟩ = some (.int .i64 hnn) ∧ w'.cell? ⟨w.heap.size, 2, none⟩ = some (.string hs))
      (first
        | go_keep
        | (exact ⟨(hk1 _ _ hzd).trans q0, (hk1 _ _ hzd).trans q1, (hk1 _ _ hzd).trans q2⟩)
        | (exact ⟨(World.cell?_alloc_past _ _ _ (Nat.lt_of_lt_of_le hzd hs1)).trans ((hk1 _ _ hzd).trans q0), (World.cell?_alloc_past _ _ _ (Nat.lt_of_lt_of_le hzd hs1)).trans ((hk1 _ _ hzd).trans q1), (World.cell?_alloc_past _ _ _ (Nat.lt_of_lt_of_le hzd hs1)).trans ((hk1 _ _ hzd).trans q2)⟩)
        | (exact ⟨(hk1 _ _ hzd2).trans d0, (hk1 _ _ hzd2).trans d1, (hk1 _ _ hzd2).trans d2⟩)
        | skip)
      (first
        | (go_at_call 77; refine (Hid.out HCL _).mono ?_; rintro e w1 ⟨rfl, hb1⟩; obtain ⟨hk1, hf1, hs1⟩ := keepers hb1; have n0 := (hk1 _ 0 hzd3).trans m0; have n1 := (hk1 _ 1 hzd3).trans m1; have n2 := (hk1 _ 2 hzd3).trans m2; have n3 := (hk1 _ 3 hzd3).trans m3; have n4 := (hk1 _ 4 hzd3).trans m4; have g0 := (hf1 _ 0 hzd3).trans y0; have g1 := (hf1 _ 1 hzd3).trans y1; have g2 := (hf1 _ 2 hzd3).trans y2; have g3 := (hf1 _ 3 hzd3).trans y3; have g4 := (hf1 _ 4 hzd3).trans y4)
        | (go_at_call 77; refine (Hid.out HCL _).mono ?_; rintro e w1 ⟨rfl, hb1⟩; obtain ⟨hk1, hf1, hs1⟩ := keepers hb1)
        | fail)
    all_goals go_wp2_with fail
    all_goals go_meet
    · exact ⟨_, rfl, afterA HB0.out HX0.out (hdAt_row (h := ⟨0, 0, ByteArray.empty, none, 0, 0, none, 0, 0⟩) HR0.out) hb1⟩
    · exact ⟨_, rfl, afterB HB0.out HX0.out (hdAt_row (h := ⟨0, 0, ByteArray.empty, none, 0, 0, none, 0, 0⟩) HR0.out) rfl hb1⟩
  case rest =>
    clear q0 q1 q2 hz0 hzd hzd2 hzd3 hne1 hne2 d0 d1 d2 m0 m1 m2 m3 m4 y0 y1 y2 y3 y4 HX0 HB0 HR0 HCL
    obtain ⟨W, rfl, hA⟩ := hcut
    have HA := Lib.hid hA
    have bL := hA.box.2 3 _ rfl
    clear hA
    have hml : maxLen ≤ 9223372036854775807 := by decide
    have b5' : l.length ≤ 1000 := by omega
    have b6' : f.length ≤ 1000 := by omega
    have hWc : W < wc.heap.size := HA.out.cur.lt
    have hWlo := HA.out.lo
    go_wp2_with fail
    clear bL
    go_loopw [20] (fun iv wr => ∃ (i : Nat) (us : List Hd) (SL : Nat → Nat → Prop) (A' : Option Addr) (c' : Nat), iv = .int .i64 i ∧ LoopL wc W hk hnn hs l i wr us SL A' c') (fun iv _ => l.length - (intOf iv).toNat)
    case atStart => exact ⟨0, [], _, none, 0, rfl, ⟨Nat.zero_le _, Kp.refl _ _, HA.out.cur, World.ownsRow_nil _ _ _ _, by simpa using Part.start wc wc.heap.size (.slice none 0 0)⟩⟩
    case round =>
      obtain ⟨i, us, SL, A', c', rfl, hLL⟩ := hrel
      have HLL := Lib.hid hLL
      have hi := hLL.hi
      have hkp := Lib.hid hLL.kp
      have cW0 := hLL.row.cell (show 3 < 5 by decide)
      have fW0 := hLL.row.frozen 3
      have hWr := hLL.row.lt
      clear hLL
      simp only [hdAt, Hd.cells, List.getD_cons_succ, List.getD_cons_zero] at cW0
      have hcr : wr.cell? ⟨C, 0, none⟩ = some (closA C) := (hkp.out.cell (p := ⟨C, 0, none⟩) (show C ≠ W by omega) (show C < wc.heap.size by have := HA.out.bel.size; omega)).trans ((HA.out.bel.cell (p := ⟨C, 0, none⟩) hC).trans hcl)
      by_cases hlt : i < l.length
      · obtain ⟨ad, u, rfl, _, hbl, hLu, hcell⟩ := Hop.L i _ (List.getElem?_eq_getElem hlt)
        have hSz := HA.out.bel.size
        have hcell2 := hcell.below HA.out.bel hbl
        obtain ⟨k0, k1, k2, k3, k4⟩ := hcell2.kp hkp.out (by omega) (by omega)
        have hLu1 : Lies wc (fun b => b < w.heap.size) l[i] u := Lies.keep (fun p _ hp => HA.out.bel.cell hp) (fun b _ hb => hb) _ _ hLu
        have hLu2 : Lies wr (fun b => b < w.heap.size) l[i] u := hLu1.kp hkp.out (fun b hb => by omega)
        have hLu' := Lib.hid hLu2
        have ihx := Lib.hid (ihl l[i] (List.getElem_mem hlt))
        have hshx := Lib.hid (ShL_mem HSL.out (List.getElem_mem hlt))
        have hcx := Lib.hid (show l[i].cnt ≤ 1000 by have := cntL_mem (List.getElem_mem hlt); omega)
        have G1 := Lib.hid (List.getElem?_eq_getElem hlt)
        clear hcell hcell2 hLu hLu1 hLu2 ihl ihf
        go_wp2_with fail
        have hbx : Below wr.heap.size wr (wr.alloc (Obj.cells #[.int .i64 u.k, .int .i64 u.n, .string u.s, .slice u.A u.la u.lc, .slice u.F u.lf u.fc] 25)) := (Below.refl _ _).alloc (Nat.le_refl _) _
        have hxx := Bx.start wr u 25
        generalize hwx : wr.alloc (Obj.cells #[.int .i64 u.k, .int .i64 u.n, .string u.s, .slice u.A u.la u.lc, .slice u.F u.lf u.fc] 25) = wx at hbx hxx ⊢
        have hsx : SX C wr.heap.size u wx := ⟨(hbx.cell (p := ⟨C, 0, none⟩) (World.block_lt_of_cell? wr _ hcr)).trans hcr, hxx.2 0 _ rfl, hxx.2 1 _ rfl, hxx.2 2 _ rfl, hxx.2 3 _ rfl, hxx.2 4 _ rfl⟩
        have cW : wx.cell? ⟨W, 3, none⟩ = some (.slice A' i c') := (hbx.cell (p := ⟨W, 3, none⟩) hWr).trans cW0
        have fW : wx.frozen? ⟨W, 3, none⟩ = false := (hbx.frozen (p := ⟨W, 3, none⟩) hWr).trans fW0
        have hcal := ihx.out (fun b => b < w.heap.size) u wx.drew C ((hLu'.out.below hbx (Nat.le_refl _)).below ((Below.refl wx.heap.size wx).drew) (Nat.le_refl _)) hshx.out hcx.out hsx.1
        have HCAL := Lib.hid hcal
        have hownx := own_below HLL.out.own hbx (Nat.le_refl _)
        have HOWN := Lib.hid (show ∀ w2, Below wx.drew.heap.size wx.drew w2 → w2.ownsRow wc.heap.size 25 5 (.slice A' i c') i (us.flatMap Hd.cells) from fun w2 hb => own_below (own_below hownx ((Below.refl wx.heap.size wx).drew) (Nat.le_refl _)) hb (Nat.le_refl _))
        have hrowC : some C ≠ (Value.slice A' i c').ownBlock := fun e => by have := own_lo HLL.out.own e.symm; omega
        have hrowX : some wr.heap.size ≠ (Value.slice A' i c').ownBlock := fun e => by have := own_lo HLL.out.own e.symm; omega
        have hrowW : some W ≠ (Value.slice A' i c').ownBlock := fun e => by have := own_lo HLL.out.own e.symm; omega
        have hCW : C ≠ W := by omega
        have hXW : wr.heap.size ≠ W := by omega
        have hwcx : wc.heap.size ≤ wx.drew.heap.size := Nat.le_trans hkp.out.size hbx.size
        have HSX := Lib.hid hsx
        obtain ⟨i0, hi0, hz0, hz1, hz2⟩ := info_parts info25
        have HBX := Lib.hid hbx
        have HRC := Lib.hid hrowC
        have HRX := Lib.hid hrowX
        have HRW := Lib.hid hrowW
        obtain ⟨s0, s1', s2, s3, s4, s5⟩ := hsx
        have hWx : W < wx.heap.size := World.block_lt_of_cell? wx _ cW
        clear hcal hownx hbx hxx hwx hrowC hrowX hrowW k0 k1 k2 k3 k4 cW0 fW0 hcr
        have hld : ldL = Op.load 22 (Operand.tmp 24) := rfl
        rw [show Op.load 22 (Operand.tmp 24) = ldL from rfl]
        go_region_held3 (fun w' => w'.cell? ⟨C, 0, none⟩ = some (closA C) ∧ w'.cell? ⟨wr.heap.size, 0, none⟩ = some (.int .i64 u.k) ∧ w'.cell? ⟨wr.heap.size, 1, none⟩ = some (.int .i64 u.n) ∧ w'.cell? ⟨wr.heap.size, 2, none⟩ = some (.string u.s) ∧ w'.cell? ⟨wr.heap.size, 3, none⟩ = some (.slice u.A u.la u.lc) ∧ w'.cell? ⟨wr.heap.size, 4, none⟩ = some (.slice u.F u.lf u.fc))
          (first
            | go_keep
            | (exact SX.call HSX.out hb2)
            | (exact SX.alloc (SX.call HSX.out hb2) _)
            | (exact SX.grown (SX.alloc (SX.call HSX.out hb2) _) hgrow3 HRC.out HRX.out)
            | (exact SX.set (SX.grown (SX.alloc (SX.call HSX.out hb2) _) hgrow3 HRC.out HRX.out) hCW hXW _)
            | skip)
          (first
            | (go_at_call 97; refine (Hid.out HCAL).mono ?_; rintro e w2 ⟨h', T, rfl, hown', hT, hb2⟩; have cW2 := cur_call cW hb2; have fW2 := cur_frz cW fW hb2; have hWw2 := World.block_lt_of_cell? w2 _ cW2)
            | (refine step_append_lies _ (by rfl) _ _ _ (by rfl) wc.heap.size 25 i0 _ 5 80 Try.underlying22 hi0 hz0 hz1 hz2 rfl (by decide) (.slice A' i c') i (us.flatMap Hd.cells) (by rfl) (World.ownsRow.alloc (Hid.out HOWN _ hb2) _)
                ⟨w2.heap.size, 0, none⟩ 1 1 h'.cells (by rfl) (by rfl) (World.news_of_block (heap_alloc_new w2 _)) (by simp [Hd.cells, Value.oneCell']) (by decide) (by unfold maxLen; omega) (by omega) (Nat.le_trans hwcx (Nat.le_trans hb2.size (by simp))) (w2.heap.size + 1) (by simp) ?_; intro g cap w3 hown3 hgrow3 hat3 hlt3; have cW3 := cur_grown cW2 hgrow3 HRW.out; have fW3 := cur_gfrz cW2 fW2 hgrow3 HRW.out)
            | fail)
        all_goals go_wp2_with fail
        all_goals exact ⟨⟨i + 1, _, _, _, _, by go_num, HLL.out.step hWc G1.out HBX.out hb2 hown' hT hown3 hgrow3 hat3⟩, by simp [intOf]; omega⟩
      · have hie : i = l.length := by omega
        subst hie
        have bF : wr.cell? ⟨w.heap.size, 4, none⟩ = some (.slice F f.length fc) := (hkp.out.cell (p := ⟨w.heap.size, 4, none⟩) (show w.heap.size ≠ W by omega) (show w.heap.size < wc.heap.size from HA.out.box.1)).trans (HA.out.box.2 4 _ rfl)
        go_wp2_with fail
        clear bF
        rename World => wd
        have hwdc := hkp.out.size
        have HCR := Lib.hid hcr
        clear hcr cW0 fW0
        go_loopw [36] (fun iv wt => ∃ (i : Nat) (vs : List Hd) (SF : Nat → Nat → Prop) (F' : Option Addr) (d' : Nat), iv = .int .i64 i ∧ LoopF wd W ⟨hk, hnn, hs, A', l.length, c', none, 0, 0⟩ ks f i wt vs SF F' d') (fun iv _ => f.length - (intOf iv).toNat)
        case atStart => exact ⟨0, [], _, none, 0, rfl, ⟨Nat.zero_le _, Kp.refl _ _, HLL.out.row, World.ownsRow_nil _ _ _ _, by simpa using Part.start wd wd.heap.size (.slice none 0 0)⟩⟩
        case round =>
          obtain ⟨i, vs, SF, F', d', rfl, hLF⟩ := hrel
          have HLF := Lib.hid hLF
          have hi := hLF.hi
          have hkpF := Lib.hid hLF.kp
          have cW0 := hLF.row.cell (show 4 < 5 by decide)
          have fW0 := hLF.row.frozen 4
          have r0 := hLF.row.cell (show 0 < 5 by decide)
          have r1 := hLF.row.cell (show 1 < 5 by decide)
          have r2 := hLF.row.cell (show 2 < 5 by decide)
          have r3 := hLF.row.cell (show 3 < 5 by decide)
          have hWt := hLF.row.lt
          clear hLF
          simp only [hdAt, Hd.cells, List.getD_cons_succ, List.getD_cons_zero] at cW0 r0 r1 r2 r3
          have hcr : wr.cell? ⟨C, 0, none⟩ = some (closA C) := (hkpF.out.cell (p := ⟨C, 0, none⟩) (show C ≠ W by omega) (show C < wd.heap.size by have := HA.out.bel.size; omega)).trans HCR.out
          have hkall : Hid (Kp W wc wr) := hkp.out.trans hkpF.out
          by_cases hlt : i < f.length
          · obtain ⟨ad, u, key, rfl, _, hbl, hkey, _, hLu, hcell⟩ := Hop.K i _ (List.getElem?_eq_getElem hlt)
            have hSz := HA.out.bel.size
            have hcell2 := hcell.below HA.out.bel hbl
            obtain ⟨k0, k1, k2, k3, k4, k5⟩ := hcell2.kp hkall.out (by omega) (by omega)
            have hLu1 : Lies wc (fun b => b < w.heap.size) f[i] u := Lies.keep (fun p _ hp => HA.out.bel.cell hp) (fun b _ hb => hb) _ _ hLu
            have hLu2 : Lies wr (fun b => b < w.heap.size) f[i] u := hLu1.kp hkall.out (fun b hb => by omega)
            have hLu' := Lib.hid hLu2
            have ihx := Lib.hid (ihf f[i] (List.getElem_mem hlt))
            have hshx := Lib.hid (ShL_mem HSF.out (List.getElem_mem hlt))
            have hcx := Lib.hid (show f[i].cnt ≤ 1000 by have := cntL_mem (List.getElem_mem hlt); omega)
            have G1 := Lib.hid (List.getElem?_eq_getElem hlt)
            have GK := Lib.hid hkey
            have hks5 := HSK.out key (List.mem_of_getElem? hkey)
            clear hcell hcell2 hLu hLu1 hLu2 ihl ihf hkey
            go_wp2_with fail
            have hbx : Below wr.heap.size wr (wr.alloc (Obj.cells #[.string key, .int .i64 u.k, .int .i64 u.n, .string u.s, .slice u.A u.la u.lc, .slice u.F u.lf u.fc] 36)) := (Below.refl _ _).alloc (Nat.le_refl _) _
            have hsx := SP.start wr key u C hcr
            generalize hwx : wr.alloc (Obj.cells #[.string key, .int .i64 u.k, .int .i64 u.n, .string u.s, .slice u.A u.la u.lc, .slice u.F u.lf u.fc] 36) = wx at hbx hsx ⊢
            have cW : wx.cell? ⟨W, 4, none⟩ = some (.slice F' i d') := (hbx.cell (p := ⟨W, 4, none⟩) hWt).trans cW0
            have fW : wx.frozen? ⟨W, 4, none⟩ = false := (hbx.frozen (p := ⟨W, 4, none⟩) hWt).trans fW0
            have HCLN := Lib.hid (fun wq : World => clone_any key (by omega) wq)
            have HCAL := Lib.hid (show ∀ w1, Below wx.drew.heap.size wx.drew w1 → Calls Try.prog 97 #[u.val, .pointer (some ⟨C, 0, none⟩)] w1 fun e w' => NewR f[i] w1 e w' from
              fun w1 hb1 => ihx.out (fun b => b < w.heap.size) u w1 C (((hLu'.out.below hbx (Nat.le_refl _)).below ((Below.refl wx.heap.size wx).drew) (Nat.le_refl _)).below hb1 (Nat.le_refl _)) hshx.out hcx.out (SP.call hsx (((Below.refl _ _).drew).trans hb1)).1)
            have hownx := own_below HLF.out.own hbx (Nat.le_refl _)
            have HOWN := Lib.hid (show ∀ w1 w2, Below wx.drew.heap.size wx.drew w1 → Below w1.heap.size w1 w2 → w2.ownsRow wd.heap.size 36 6 (.slice F' i d') i (((ks.take i).zip vs).flatMap pcells) from fun w1 w2 hb hb' => own_below (own_below (own_below hownx ((Below.refl wx.heap.size wx).drew) (Nat.le_refl _)) hb (Nat.le_refl _)) hb' (Nat.le_refl _))
            have HRC := Lib.hid (show some C ≠ (Value.slice F' i d').ownBlock from fun e => by have := own_lo HLF.out.own e.symm; omega)
            have HRX := Lib.hid (show some wr.heap.size ≠ (Value.slice F' i d').ownBlock from fun e => by have := own_lo HLF.out.own e.symm; omega)
            have HRW := Lib.hid (show some W ≠ (Value.slice F' i d').ownBlock from fun e => by have := own_lo HLF.out.own e.symm; omega)
            have hCW : C ≠ W := by omega
            have hXW : wr.heap.size ≠ W := by omega
            have hwcx : wd.heap.size ≤ wx.drew.heap.size := Nat.le_trans hkpF.out.size hbx.size
            have HSX := Lib.hid (SP.imp (w' := wx.drew) hsx rfl rfl)
            obtain ⟨i0, hi0, hz0, hz1, hz2⟩ := info_parts info36
            have HBX := Lib.hid hbx
            obtain ⟨s0, s1', s2, s3, s4, s5, s6⟩ := hsx
            have hWx : W < wx.heap.size := World.block_lt_of_cell? wx _ cW
            clear hownx hbx hwx k0 k1 k2 k3 k4 k5 cW0 fW0 hcr r0 r1 r2 r3
            have hld : ldF = Op.load 23 (Operand.tmp 40) := rfl
            rw [show Op.load 23 (Operand.tmp 40) = ldF from rfl]
            go_region_held3 (fun w' => w'.cell? ⟨C, 0, none⟩ = some (closA C) ∧ w'.cell? ⟨wr.heap.size, 0, none⟩ = some (.string key) ∧ w'.cell? ⟨wr.heap.size, 1, none⟩ = some (.int .i64 u.k) ∧ w'.cell? ⟨wr.heap.size, 2, none⟩ = some (.int .i64 u.n) ∧ w'.cell? ⟨wr.heap.size, 3, none⟩ = some (.string u.s) ∧ w'.cell? ⟨wr.heap.size, 4, none⟩ = some (.slice u.A u.la u.lc) ∧ w'.cell? ⟨wr.heap.size, 5, none⟩ = some (.slice u.F u.lf u.fc))
              (first
                | go_keep
                | (exact SP.call HSX.out hb1)
                | (exact SP.call (SP.call HSX.out hb1) hb2)
                | (exact SP.alloc (SP.call (SP.call HSX.out hb1) hb2) _)
                | (exact SP.grown (SP.alloc (SP.call (SP.call HSX.out hb1) hb2) _) hgrow3 HRC.out HRX.out)
                | (exact SP.set (SP.grown (SP.alloc (SP.call (SP.call HSX.out hb1) hb2) _) hgrow3 HRC.out HRX.out) hCW hXW _)
                | skip)
              (first
                | (go_at_call 77; refine (Hid.out HCLN _).mono ?_; rintro e w1 ⟨rfl, hb1⟩; have cW1 := cur_call cW hb1; have fW1 := cur_frz cW fW hb1)
                | (go_at_call 97; refine (Hid.out HCAL _ hb1).mono ?_; rintro e w2 ⟨h', T, rfl, hown', hT, hb2⟩; have cW2 := cur_bel cW1 hb2; have fW2 := cur_bfrz cW1 fW1 hb2; have hWw2 := World.block_lt_of_cell? w2 _ cW2)
                | (refine step_append_lies _ (by rfl) _ _ _ (by rfl) wd.heap.size 36 i0 _ 6 96 Try.underlying23 hi0 hz0 hz1 hz2 rfl (by decide) (.slice F' i d') i (((ks.take i).zip vs).flatMap pcells) (by rfl) (World.ownsRow.alloc (Hid.out HOWN _ _ hb1 hb2) _)
                    ⟨w2.heap.size, 0, none⟩ 1 1 (pcells (key, h')) (by rfl) (by rfl) (World.news_of_block (heap_alloc_new w2 _)) (by simp [pcells, Hd.cells, Value.oneCell']) (by decide) (by unfold maxLen; omega) (by omega) (Nat.le_trans hwcx (Nat.le_trans hb1.size (Nat.le_trans hb2.size (by simp)))) (w2.heap.size + 1) (by simp) ?_; intro g cap w3 hown3 hgrow3 hat3 hlt3; have cW3 := cur_grown cW2 hgrow3 HRW.out; have fW3 := cur_gfrz cW2 fW2 hgrow3 HRW.out)
                | fail)
            all_goals go_wp2_with fail
            all_goals exact ⟨⟨i + 1, _, _, _, _, by go_num, HLF.out.step (by omega) G1.out GK.out e6 HBX.out hb1 hb2 hown' hT hown3 hgrow3 hat3⟩, by simp [intOf]; omega⟩
          · have hie : i = f.length := by omega
            subst hie
            have hres := rowIs_below' (B := 0) HA.out.res (hkall.out.block (w.heap.size + 1) (by omega) HA.out.res.lt)
            have z0 := hres.cell (show 0 < 5 by decide)
            have z1 := hres.cell (show 1 < 5 by decide)
            have z2 := hres.cell (show 2 < 5 by decide)
            have z3 := hres.cell (show 3 < 5 by decide)
            have z4 := hres.cell (show 4 < 5 by decide)
            have g0 := hres.frozen 0
            have g1 := hres.frozen 1
            have g2 := hres.frozen 2
            have g3 := hres.frozen 3
            have g4 := hres.frozen 4
            have HOW := Lib.hid (Loops.done HLL.out HLF.out hWc e6 b1 b2 b3 b4 b5 b6)
            have hSz := HA.out.bel.size
            have hszr := hkall.out.size
            clear hres fW0 hcr
            simp only [hdAt, Hd.cells, List.getD_cons_succ, List.getD_cons_zero] at z0 z1 z2 z3 z4
            go_wp2_with fail
            refine bodyPost_ret (v := .agg #[.int .i64 hk, .int .i64 hnn, .string hs, .slice A' l.length c', .slice F' f.length d']) (by simp [results, Try.results97, go_sem, z0, z1, z2, z3, z4]) rfl ?_
            have hset : ∀ b, b ≠ w.heap.size + 1 → (((((wr.setCell ⟨w.heap.size + 1, 0, none⟩ (.int .i64 hk)).setCell ⟨w.heap.size + 1, 1, none⟩ (.int .i64 hnn)).setCell ⟨w.heap.size + 1, 2, none⟩ (.string hs)).setCell ⟨w.heap.size + 1, 3, none⟩ (.slice A' l.length c')).setCell ⟨w.heap.size + 1, 4, none⟩ (.slice F' f.length d')).heap[b]? = wr.heap[b]? := fun b hb => by
              rw [Below.heap_setCell _ _ _ _ hb, Below.heap_setCell _ _ _ _ hb, Below.heap_setCell _ _ _ _ hb, Below.heap_setCell _ _ _ _ hb, Below.heap_setCell _ _ _ _ hb]
            have hbw : Below w.heap.size w wr := HA.out.bel.trans (hkall.out.bel.mono (by omega))
            refine ⟨⟨hk, hnn, hs, A', l.length, c', F', f.length, d'⟩, fun b => wc.heap.size ≤ b ∧ b < wr.heap.size, rfl, Own.keep _ _ _ HOW.out (fun b hb => hset b (by omega)), fun b hb => ⟨by omega, by simp; exact hb.2⟩, ?_⟩
            exact ((((hbw.setCell (Nat.le_succ _) _).setCell (Nat.le_succ _) _).setCell (Nat.le_succ _) _).setCell (Nat.le_succ _) _).setCell (Nat.le_succ _) _
end Go.Proofs.Ytmdlcalnncncjaa
