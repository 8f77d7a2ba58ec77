/- The law's spoil, walked. -/
import Derived.Test.YtalhkbcbfpjhgaaTSpoil
set_option linter.unusedVariables false
set_option linter.unusedSimpArgs false
namespace Go.Proofs.Ytalhkbcbfpjhgaa
open Go.RowKit
set_option maxHeartbeats 1000000 in
set_option maxRecDepth 100000 in
theorem spoil_any : ∀ (a : Va) (T : Nat → Prop) (h : Hd) (w : World), Own w a T h → (∀ b, T b → b < w.heap.size) → a.cnt ≤ 1000 → Calls Try.prog 30 #[h.val] w fun e w' => e = .returned (.tuple #[]) ∧ OutK T w w' := by
  intro a
  induction a using Va.ind with
  | h k nn s l ks f ihl ihf =>
  intro T h w H hT hcn
  simp only [Va.cnt] at hcn
  have hl1 := len_le_cntL l
  have hf1 := len_le_cntL f
  have HL := Own.lies _ _ _ H
  simp only [Lies] at HL
  obtain ⟨⟨e1, e2, e3, e4, e5, e6⟩, -, -, -⟩ := HL
  obtain ⟨us, vs, SL, SF, ul, vl, sl, sf, dl, df, dd, hsp⟩ := Sp.start (w0 := w.alloc (Obj.cells #[.int .i64 h.k, .int .i64 h.n, .string h.s, .slice h.A h.la h.lc, .slice h.F h.lf h.fc] 25)) H hT ((Below.refl _ _).alloc (Nat.le_refl _) _) (Bx.start w h 25)
  have HSP := Lib.hid hsp
  have D1 := Lib.hid sl
  have D2 := Lib.hid sf
  have D3 := Lib.hid dl
  have D4 := Lib.hid df
  have D5 := Lib.hid dd
  have HT := Lib.hid hT
  have E6 := Lib.hid e6
  clear H hsp sl sf dl df dd hT e1 e2 e3 e6
  obtain ⟨hk, hnn, hs, A, la, lc, F, lf, fc⟩ := h
  simp only at e4 e5
  subst e4 e5
  unfold Hd.val
  simp only
  have UL := Lib.hid ul
  have VL := Lib.hid vl
  clear ul vl
  go_enter Try.func30, Try.ntmps30
  go_wp2_with fail
  go_loopw [2] (fun iv wr => ∃ i : Nat, iv = .int .i64 i ∧ i ≤ l.length ∧ Sp T w ⟨hk, hnn, hs, A, l.length, lc, F, f.length, fc⟩ l ks f us vs SL SF i 0 wr) (fun iv _ => l.length - (intOf iv).toNat)
  case atStart => exact ⟨0, rfl, Nat.zero_le _, HSP.out⟩
  case round =>
    obtain ⟨i, rfl, hi, hS⟩ := hrel
    have HS := Lib.hid hS
    have cA := hS.box.2 3 _ rfl
    have cF := hS.box.2 4 _ rfl
    clear hS HSP
    by_cases hlt : i < l.length
    · have hui : i < us.length := by have := UL.out; omega
      obtain ⟨u, hu⟩ : ∃ u, us[i]? = some u := ⟨us[i], List.getElem?_eq_getElem hui⟩
      obtain ⟨g, eg, hTg, n1, n2, hcell, hfz⟩ := HS.out.cl i u (Nat.le_refl _) hu
      obtain rfl : A = some ⟨g, 0, none⟩ := eg
      have HU := Lib.hid hu
      have hown := HS.out.kl i _ u (Nat.le_refl _) (List.getElem?_eq_getElem hlt) hu
      have HCAL := Lib.hid (ihl l[i] (List.getElem_mem hlt) (SL i) u wr hown (fun b hb => Nat.lt_of_lt_of_le (HT.out b (D1.out i b hb)) HS.out.ok.size) (by have := cntL_mem (List.getElem_mem hlt); omega))
      have k0 := hcell 0 _ rfl
      have k1 := hcell 1 _ rfl
      have k2 := hcell 2 _ rfl
      have k3 := hcell 3 _ rfl
      have k4 := hcell 4 _ rfl
      simp only [Nat.add_zero] at k0
      have HG := Lib.hid hTg
      have N1 := Lib.hid n1
      have hgl : g < w.heap.size := HT.out g hTg
      have HFZ := Lib.hid hfz
      clear hown hcell hu ihl ihf hTg n1 n2 hfz
      have hif : (i : Int) < (l.length : Int) := by omega
      go_wp2_with fail
      refine HCAL.out.mono ?_
      rintro e w1 ⟨rfl, hk1⟩
      have hgk : w1.heap[g]? = wr.heap[g]? := hk1.block g (Nat.lt_of_lt_of_le hgl HS.out.ok.size) (N1.out i)
      have hbk : w1.heap[w.heap.size]? = wr.heap[w.heap.size]? := hk1.block _ HS.out.box.1 (fun q => by have := HT.out _ (D1.out i _ q); omega)
      have cA1 : w1.cell? ⟨w.heap.size, 3, none⟩ = _ := (World.cell?_of_block (a := ⟨w.heap.size, 3, none⟩) hbk).trans cA
      have j0 := (World.cell?_of_block (a := ⟨g, i * 5, none⟩) hgk).trans k0
      have j1 := (World.cell?_of_block (a := ⟨g, i * 5 + 1, none⟩) hgk).trans k1
      have j2 := (World.cell?_of_block (a := ⟨g, i * 5 + 2, none⟩) hgk).trans k2
      have j3 := (World.cell?_of_block (a := ⟨g, i * 5 + 3, none⟩) hgk).trans k3
      have j4 := (World.cell?_of_block (a := ⟨g, i * 5 + 4, none⟩) hgk).trans k4
      have f0 : w1.frozen? ⟨g, i * 5, none⟩ = false := (World.frozen?_of_block (a := ⟨g, i * 5, none⟩) hgk).trans (HFZ.out _)
      have f1 : w1.frozen? ⟨g, i * 5 + 1, none⟩ = false := (World.frozen?_of_block (a := ⟨g, i * 5 + 1, none⟩) hgk).trans (HFZ.out _)
      have f2 : w1.frozen? ⟨g, i * 5 + 2, none⟩ = false := (World.frozen?_of_block (a := ⟨g, i * 5 + 2, none⟩) hgk).trans (HFZ.out _)
      have f3 : w1.frozen? ⟨g, i * 5 + 3, none⟩ = false := (World.frozen?_of_block (a := ⟨g, i * 5 + 3, none⟩) hgk).trans (HFZ.out _)
      have f4 : w1.frozen? ⟨g, i * 5 + 4, none⟩ = false := (World.frozen?_of_block (a := ⟨g, i * 5 + 4, none⟩) hgk).trans (HFZ.out _)
      have HK1 := Lib.hid hk1
      clear hk1 hgk hbk k0 k1 k2 k3 k4 HCAL cA cF
      go_wp2_with fail
      exact ⟨⟨i + 1, by go_num, by omega, HS.out.stepL HT.out D1.out D2.out D3.out D5.out HU.out HK1.out rfl⟩, by simp [intOf]; omega⟩
    · have hie : i = l.length := by omega
      subst hie
      clear ihl
      go_wp2_with fail
      clear cA
      go_loopw [3] (fun iv wt => ∃ j : Nat, iv = .int .i64 j ∧ j ≤ f.length ∧ Sp T w ⟨hk, hnn, hs, A, l.length, lc, F, f.length, fc⟩ l ks f us vs SL SF l.length j wt) (fun iv _ => f.length - (intOf iv).toNat)
      case atStart => exact ⟨0, rfl, Nat.zero_le _, HS.out⟩
      case round =>
        clear HS cF
        obtain ⟨j, rfl, hj, hS⟩ := hrel
        have HS := Lib.hid hS
        have cF := hS.box.2 4 _ rfl
        clear hS
        by_cases hlt : j < f.length
        · have hvj : j < vs.length := by have := VL.out; omega
          have hkj : j < ks.length := by have := E6.out; omega
          obtain ⟨u, hu⟩ : ∃ u, vs[j]? = some u := ⟨vs[j], List.getElem?_eq_getElem hvj⟩
          obtain ⟨key, hky⟩ : ∃ key, ks[j]? = some key := ⟨ks[j], List.getElem?_eq_getElem hkj⟩
          obtain ⟨g, eg, hTg, n1, n2, n3, hcell, hfz⟩ := HS.out.cf j key u (Nat.le_refl _) hky hu
          obtain rfl : F = some ⟨g, 0, none⟩ := eg
          have HU := Lib.hid hu
          have HKY := Lib.hid hky
          have hown := HS.out.kf j _ u (Nat.le_refl _) (List.getElem?_eq_getElem hlt) hu
          have HCAL := Lib.hid (ihf f[j] (List.getElem_mem hlt) (SF j) u wr hown (fun b hb => Nat.lt_of_lt_of_le (HT.out b (D2.out j b hb)) HS.out.ok.size) (by have := cntL_mem (List.getElem_mem hlt); omega))
          have k0 := hcell 0 _ rfl
          have k1 := hcell 1 _ rfl
          have k2 := hcell 2 _ rfl
          have k3 := hcell 3 _ rfl
          have k4 := hcell 4 _ rfl
          have k5 := hcell 5 _ rfl
          simp only [Nat.add_zero] at k0
          have HG := Lib.hid hTg
          have N2 := Lib.hid n2
          have hgl : g < w.heap.size := HT.out g hTg
          have HFZ := Lib.hid hfz
          clear hown hcell hu hky ihf hTg n1 n2 n3 hfz
          have hif : (j : Int) < (f.length : Int) := by omega
          go_wp2_with fail
          refine HCAL.out.mono ?_
          rintro e w1 ⟨rfl, hk1⟩
          have hgk : w1.heap[g]? = wr.heap[g]? := hk1.block g (Nat.lt_of_lt_of_le hgl HS.out.ok.size) (N2.out j)
          have hbk : w1.heap[w.heap.size]? = wr.heap[w.heap.size]? := hk1.block _ HS.out.box.1 (fun q => by have := HT.out _ (D2.out j _ q); omega)
          have cF1 : w1.cell? ⟨w.heap.size, 4, none⟩ = _ := (World.cell?_of_block (a := ⟨w.heap.size, 4, none⟩) hbk).trans cF
          have j0 := (World.cell?_of_block (a := ⟨g, j * 6, none⟩) hgk).trans k0
          have j1 := (World.cell?_of_block (a := ⟨g, j * 6 + 1, none⟩) hgk).trans k1
          have j2 := (World.cell?_of_block (a := ⟨g, j * 6 + 2, none⟩) hgk).trans k2
          have j3 := (World.cell?_of_block (a := ⟨g, j * 6 + 3, none⟩) hgk).trans k3
          have j4 := (World.cell?_of_block (a := ⟨g, j * 6 + 4, none⟩) hgk).trans k4
          have j5 := (World.cell?_of_block (a := ⟨g, j * 6 + 5, none⟩) hgk).trans k5
          have f0 : w1.frozen? ⟨g, j * 6, none⟩ = false := (World.frozen?_of_block (a := ⟨g, j * 6, none⟩) hgk).trans (HFZ.out _)
          have f1 : w1.frozen? ⟨g, j * 6 + 1, none⟩ = false := (World.frozen?_of_block (a := ⟨g, j * 6 + 1, none⟩) hgk).trans (HFZ.out _)
          have f2 : w1.frozen? ⟨g, j * 6 + 2, none⟩ = false := (World.frozen?_of_block (a := ⟨g, j * 6 + 2, none⟩) hgk).trans (HFZ.out _)
          have f3 : w1.frozen? ⟨g, j * 6 + 3, none⟩ = false := (World.frozen?_of_block (a := ⟨g, j * 6 + 3, none⟩) hgk).trans (HFZ.out _)
          have f4 : w1.frozen? ⟨g, j * 6 + 4, none⟩ = false := (World.frozen?_of_block (a := ⟨g, j * 6 + 4, none⟩) hgk).trans (HFZ.out _)
          have f5 : w1.frozen? ⟨g, j * 6 + 5, none⟩ = false := (World.frozen?_of_block (a := ⟨g, j * 6 + 5, none⟩) hgk).trans (HFZ.out _)
          have HK1 := Lib.hid hk1
          clear hk1 hgk hbk k0 k1 k2 k3 k4 k5 HCAL cF
          go_wp2_with fail
          exact ⟨⟨j + 1, by go_num, by omega, HS.out.stepF (by have := UL.out; omega) HT.out D1.out D2.out D4.out HKY.out HU.out HK1.out rfl⟩, by simp [intOf]; omega⟩
        · go_wp2_with fail
          go_end0
          exact ⟨rfl, HS.out.ok⟩
end Go.Proofs.Ytalhkbcbfpjhgaa
