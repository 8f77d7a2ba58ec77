/- tree.Right, walked. -/
import Derived.Test.YtbinmhcjadkmgaaDoorTKind
import Derived.Laws.EntriesVeiled
set_option linter.unusedVariables false
set_option linter.unusedSimpArgs false
namespace Go.Proofs.YtbinmhcjadkmgaaDoor
open Go.RowKit
/-- The variable that holds the closure. -/
abbrev clos (c : Nat) : Value := .func (.func 22) #[] #[.pointer (some ⟨c, 0, none⟩)]
theorem RL_zero {x : Va} : ¬ x.R 0 := by
  cases x
  simp [Va.R]
theorem cnt_pos (x : Va) : 1 ≤ x.cnt := by
  cases x
  simp only [Va.cnt]
  omega
theorem len_le_cntL : ∀ l : List Va, l.length ≤ cntL l
  | [] => by simp
  | x :: r => by
    have := len_le_cntL r
    have := cnt_pos x
    simp only [List.length_cons, cntL]
    omega
set_option maxHeartbeats 1000000 in
set_option maxRecDepth 100000 in
theorem right1_any : ∀ (a : Va) (S : Nat → Prop) (h : Hd) (w : World) (lv : Int) (d : Nat) (c : Nat), Lies w S a h → a.Sh → a.cnt ≤ 1000 → lv + d = 13 → 1 ≤ lv → w.cell? ⟨c, 0, none⟩ = some (clos c) →
    Calls Tryd.prog 22 #[h.val, .int .i64 lv, .pointer (some ⟨c, 0, none⟩)] w fun e w' => YesNo (a.R d) w e w' := by
  intro a
  induction a using Va.ind with
  | h k nn s l ks f ihl ihf =>
  intro S h w lv d c H hsh hcn hld hl1 hcl
  have hc0 : c < w.heap.size := World.block_lt_of_cell? w _ hcl
  have Hop := H.op
  have HL := Lib.hid H
  simp only [Lies] at H
  obtain ⟨⟨e1, e2, e3, e4, e5, e6⟩, ⟨b1, b2, b3, b4, b5, b6, b7, b8⟩, -, -⟩ := H
  have hml : maxLen ≤ 9223372036854775807 := by decide
  have b5' : l.length ≤ 9223372036854775807 := Nat.le_trans b5 hml
  have b6' : f.length ≤ 9223372036854775807 := Nat.le_trans b6 hml
  clear hml
  simp only [Va.Sh] at hsh
  simp only [Va.cnt] at hcn
  obtain ⟨s1, s2, s3, s4⟩ := hsh
  have HSL := Lib.hid s2
  have HSK := Lib.hid s3
  have HSF := Lib.hid s4
  clear s2 s3 s4
  have hf1 := len_le_cntL f
  have HR := Lib.hid (show (Va.mk k nn s l ks f).R d ↔ 1 ≤ d ∧ TopP k nn s l.length f.length ∧ KeysP ks ∧ RL l (d - 1) ∧ RL f (d - 1) by simp only [Va.R])
  have hkd := kind_any h ks (w.alloc (Obj.cells #[.int .i64 h.k, .int .i64 h.n, .string h.s, .slice h.A h.la h.lc, .slice h.F h.lf h.fc] 25)) (by rw [e2]; exact b2) (by rw [e3]; exact b3) (by rw [e4]; exact b5') (by rw [e5, e6]) (by omega) b4 ((Hop.keys e6).below ((Below.refl w.heap.size w).alloc (Nat.le_refl _) _) (Nat.le_refl _))
  have HKD := Lib.hid hkd
  clear hkd
  generalize hRR : (Va.mk k nn s l ks f).R d = RR at HR ⊢
  clear hRR
  obtain ⟨hk, hnn, hs, A, la, lc, F, lf, fc⟩ := h
  simp only at e1 e2 e3 e4 e5 b7 b8 HKD
  subst e1 e2 e3 e4 e5
  unfold Hd.val
  simp only
  by_cases hlv : lv = 13
  · obtain rfl : d = 0 := by omega
    have HR' := HR
    clear HR
    subst hlv
    go_enter Tryd.func22, Tryd.ntmps22
    go_wp2_with fail
    go_ret
    exact YesNo.no (fun h => by have := (HR'.out.1 h).1; omega) ((Below.refl _ _).alloc (Nat.le_refl _) _)
  have hl3 : lv ≤ 12 := by omega
  have HSY := Lib.hid (show TopP hk hnn hs l.length f.length ∧ KeysP ks → RL l (d - 1) → RL f (d - 1) → RR from fun h1 h2 h3 => HR.out.2 ⟨by omega, h1.1, h1.2, h2, h3⟩)
  have HSN := Lib.hid (show RR → (TopP hk hnn hs l.length f.length ∧ KeysP ks) ∧ RL l (d - 1) ∧ RL f (d - 1) from fun h => ⟨⟨(HR.out.1 h).2.1, (HR.out.1 h).2.2.1⟩, (HR.out.1 h).2.2.2⟩)
  clear HR hlv
  go_enter Tryd.func22, Tryd.ntmps22
  go_wp2_with fail
  refine HKD.out.mono ?_
  rintro e w1 ⟨r, rfl, hr, hb1⟩
  have hbx := (BoxAt.start w ⟨hk, hnn, hs, A, l.length, lc, F, f.length, fc⟩ 25).go hb1 (Nat.le_refl _)
  have HBX := Lib.hid hbx
  have hcA := hbx.2.2 3 _ rfl
  have HRK := Lib.hid hr
  clear hb1 HKD hr hbx
  cases r
  · go_wp2_with fail
    go_ret
    exact YesNo.no (fun h => by have := HRK.out.2 (HSN.out h).1; cases this) HBX.out.1
  have HTK := Lib.hid (HRK.out.1 rfl)
  clear HRK
  go_wp2_with fail
  go_loopw [20] (fun iv wr => ∃ (i : Nat), iv = .int .i64 i ∧ i ≤ l.length ∧ RL (l.take i) (d - 1) ∧ BoxAt w wr ⟨hk, hnn, hs, A, l.length, lc, F, f.length, fc⟩) (fun iv _ => l.length - (intOf iv).toNat)
  case atStart => exact ⟨0, rfl, Nat.zero_le _, by simp [RL], HBX.out⟩
  case round =>
    clear hcA
    obtain ⟨i, rfl, hi, hrl, hbx⟩ := hrel
    have HRL := Lib.hid hrl
    have HB := Lib.hid hbx
    have cF := hbx.2.2 4 _ rfl
    have hcc : wr.cell? ⟨c, 0, none⟩ = some (clos c) := (hbx.1.cell (p := ⟨c, 0, none⟩) hc0).trans hcl
    have hcw : c < wr.heap.size := World.block_lt_of_cell? wr _ hcc
    clear hbx hrl HBX
    by_cases hlt : i < l.length
    · obtain ⟨ad, u, rfl, _, hbl, hLu, hcell⟩ := Hop.L i _ (List.getElem?_eq_getElem hlt)
      obtain ⟨k0, k1, k2, k3, k4⟩ := hcell.below HB.out.1 hbl
      have hLu' := Lib.hid (hLu.below HB.out.1 (Nat.le_refl _))
      have ihx := Lib.hid (ihl l[i] (List.getElem_mem hlt))
      have hshx := Lib.hid (ShL_mem HSL.out (List.getElem_mem hlt))
      have hcx := Lib.hid (show l[i].cnt ≤ 1000 by have := cntL_mem (List.getElem_mem hlt); omega)
      have G1 := Lib.hid (List.getElem?_eq_getElem hlt)
      clear hcell hLu ihl ihf
      go_wp2_with fail
      refine (ihx.out S u _ (lv + 1) (d - 1) c (hLu'.out.below ((Below.refl wr.heap.size wr).alloc (Nat.le_refl _) _) (Nat.le_refl _)) hshx.out hcx.out (by omega) (by omega) (by rw [World.cell?_alloc_past _ _ _ hcw]; exact hcc)).mono ?_
      rintro e w2 ⟨r, rfl, hr, hb2⟩
      have HRR := Lib.hid hr
      have HB2 := Lib.hid (HB.out.go (after_alloc hb2).1 (Nat.le_refl _))
      clear hr hb2
      cases r
      · go_wp2_with fail
        go_ret
        exact YesNo.no (fun h => by have := HRR.out.2 (RL_mem (HSN.out h).2.1 (List.mem_of_getElem? G1.out)); cases this) HB2.out.1
      · have hst := Lib.hid (RL_step HRL.out G1.out (HRR.out.1 rfl))
        go_wp2_with fail
        exact ⟨⟨i + 1, by go_num, by omega, hst.out, HB2.out⟩, by simp [intOf]; omega⟩
    · have hall : Hid (RL l (d - 1)) := by have := HRL.out; rw [List.take_of_length_le (by omega)] at this; exact this
      clear HRL ihl
      go_wp2_with fail
      go_loopw [34] (fun iv wr => ∃ (i : Nat), iv = .int .i64 i ∧ i ≤ f.length ∧ RL (f.take i) (d - 1) ∧ BoxAt w wr ⟨hk, hnn, hs, A, l.length, lc, F, f.length, fc⟩) (fun iv _ => f.length - (intOf iv).toNat)
      case atStart => exact ⟨0, rfl, Nat.zero_le _, by simp [RL], HB.out⟩
      case round =>
        clear cF hcc hcw HB
        obtain ⟨i', rfl, hi', hrl, hbx⟩ := hrel
        have HRL := Lib.hid hrl
        have HB := Lib.hid hbx
        have hcc : wr.cell? ⟨c, 0, none⟩ = some (clos c) := (hbx.1.cell (p := ⟨c, 0, none⟩) hc0).trans hcl
        have hcw : c < wr.heap.size := World.block_lt_of_cell? wr _ hcc
        clear hbx hrl
        by_cases hlt : i' < f.length
        · obtain ⟨ad, u, key, rfl, _, hbl, hkey, _, hLu, hcell⟩ := Hop.K i' _ (List.getElem?_eq_getElem hlt)
          obtain ⟨k0, k1, k2, k3, k4, k5⟩ := hcell.below HB.out.1 hbl
          have hLu' := Lib.hid (hLu.below HB.out.1 (Nat.le_refl _))
          have ihx := Lib.hid (ihf f[i'] (List.getElem_mem hlt))
          have hshx := Lib.hid (ShL_mem HSF.out (List.getElem_mem hlt))
          have hcx := Lib.hid (show f[i'].cnt ≤ 1000 by have := cntL_mem (List.getElem_mem hlt); omega)
          have G1 := Lib.hid (List.getElem?_eq_getElem hlt)
          clear hcell hLu ihf hkey
          go_wp2_with fail
          refine (ihx.out S u _ (lv + 1) (d - 1) c (hLu'.out.below ((Below.refl wr.heap.size wr).alloc (Nat.le_refl _) _) (Nat.le_refl _)) hshx.out hcx.out (by omega) (by omega) (by rw [World.cell?_alloc_past _ _ _ hcw]; exact hcc)).mono ?_
          rintro e w2 ⟨r, rfl, hr, hb2⟩
          have HRR := Lib.hid hr
          have HB2 := Lib.hid (HB.out.go (after_alloc hb2).1 (Nat.le_refl _))
          clear hr hb2
          cases r
          · go_wp2_with fail
            go_ret
            exact YesNo.no (fun h => by have := HRR.out.2 (RL_mem (HSN.out h).2.2 (List.mem_of_getElem? G1.out)); cases this) HB2.out.1
          · have hst := Lib.hid (RL_step HRL.out G1.out (HRR.out.1 rfl))
            go_wp2_with fail
            exact ⟨⟨i' + 1, by go_num, by omega, hst.out, HB2.out⟩, by simp [intOf]; omega⟩
        · have hall2 : Hid (RL f (d - 1)) := by have := HRL.out; rw [List.take_of_length_le (by omega)] at this; exact this
          go_wp2_with fail
          go_ret
          exact YesNo.yes (HSY.out HTK.out hall.out hall2.out) HB.out.1
theorem right_prog (a : Va) (S : Nat → Prop) (h : Hd) (w : World) : Lies w S a h → a.Sh → a.cnt ≤ 1000 → Calls Tryd.prog 15 #[h.val] w fun e w' => YesNo (a.R 12) w e w' := by
  intro H hsh hcn
  have HH := Lib.hid H
  have HS := Lib.hid hsh
  clear H hsh
  unfold Hd.val
  go_enter Tryd.func15, Tryd.ntmps15
  go_wp2_with fail
  refine (right1_any a S h _ 1 12 (w.heap.size + 1) (HH.out.below (((Below.refl w.heap.size w).alloc (Nat.le_refl _) _).alloc (by simp) _) (Nat.le_refl _)) HS.out hcn (by decide) (by decide) ?_).mono ?_
  · rw [World.cell?_alloc_at _ _ _ _ (by simp)]
    rfl
  rintro e w2 ⟨r, rfl, hr, hb2⟩
  go_wp2_with fail
  go_ret
  exact ⟨r, rfl, hr, (((Below.refl w.heap.size w).alloc (Nat.le_refl _) _).alloc (by simp) _).trans (hb2.mono (by simp; omega))⟩
end Go.Proofs.YtbinmhcjadkmgaaDoor
