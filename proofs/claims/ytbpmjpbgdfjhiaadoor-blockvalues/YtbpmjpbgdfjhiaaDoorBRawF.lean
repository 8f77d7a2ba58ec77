/- The document's own Raw. -/
import Derived.Test.YtbpmjpbgdfjhiaaDoorBRawR
set_option linter.unusedVariables false
set_option linter.unusedSimpArgs false
namespace Go.Proofs.YtbpmjpbgdfjhiaaDoor
open Go.RowKit
set_option maxHeartbeats 4000000 in
set_option maxRecDepth 100000 in
theorem raw_ref (s : ByteArray) (hs : s.size ≤ 1000000) (w : World) :
    Calls Tryd.prog 13 #[.string s] w fun e w' => e = .returned (.tuple #[.string (rawS s.data.toList), .int .i64 (rawE s.data.toList)]) ∧ Below w.heap.size w w' := by
  obtain ⟨i0, hi, hz0, hz1, hz2⟩ := info_parts info9
  have hBad : rawBad s.data.toList = true → rawS s.data.toList = ⟨#[]⟩ ∧ rawE s.data.toList = 4 := fun h => ⟨rawS_no _ (rawOk_bad _ h), rawE_no _ (rawOk_bad _ h)⟩
  have HBad := Lib.hid hBad
  clear hBad
  go_enter Tryd.func13, Tryd.ntmps13
  go_wp2
  go_loop [4] (fun i => ∃ k : Nat, k ≤ s.size ∧ i = .int .i64 k ∧ NoBad s k) (fun i => s.size - (intOf i).toNat)
  case atStart => exact ⟨0, Nat.zero_le _, rfl, fun j h hj => by omega⟩
  case round =>
    obtain ⟨k, hk, rfl, hno⟩ := hrel
    have HNO := Lib.hid hno
    clear hno
    by_cases hlt : k < s.size
    · by_cases h13 : s[k].toNat = 13
      · obtain ⟨hR, hE⟩ := HBad.out (bad_13 s k hlt h13)
        have HR := Lib.hid hR
        have HE := Lib.hid hE
        have d1 : ((s[k].toNat : Int) == 13) = true := by rw [h13]; rfl
        clear h13 hR hE
        go_wp2
        go_ret2
        exact ⟨by rw [HR.out, HE.out]; rfl, Below.refl _ _⟩
      · have d1 : ((s[k].toNat : Int) == 13) = false := by simp; omega
        by_cases hl : k + 1 = s.size
        · have d2 : ((k : Int) == (s.size : Int) - 1) = true := by simp; omega
          by_cases h92 : s[k].toNat = 92
          · obtain ⟨hR, hE⟩ := HBad.out (bad_last s k hlt hl (.inl h92))
            have HR := Lib.hid hR
            have HE := Lib.hid hE
            have d3 : ((s[k].toNat : Int) == 92) = true := by rw [h92]; rfl
            clear h92 h13 hR hE
            go_wp2
            go_ret2
            exact ⟨by rw [HR.out, HE.out]; rfl, Below.refl _ _⟩
          · have d3 : ((s[k].toNat : Int) == 92) = false := by simp; omega
            by_cases h34 : s[k].toNat = 34
            · obtain ⟨hR, hE⟩ := HBad.out (bad_last s k hlt hl (.inr h34))
              have HR := Lib.hid hR
              have HE := Lib.hid hE
              have d4 : ((s[k].toNat : Int) == 34) = true := by rw [h34]; rfl
              clear h34 h92 h13 hR hE
              go_wp2
              go_ret2
              exact ⟨by rw [HR.out, HE.out]; rfl, Below.refl _ _⟩
            · have d4 : ((s[k].toNat : Int) == 34) = false := by simp; omega
              have HN := Lib.hid (HNO.out.next hlt h13 (fun _ => ⟨h92, h34⟩))
              clear h34 h92 h13
              go_wp2
              exact ⟨⟨k + 1, by omega, by go_num, HN.out⟩, by simp [intOf]; omega⟩
        · have d2 : ((k : Int) == (s.size : Int) - 1) = false := by simp; omega
          have HN := Lib.hid (HNO.out.next hlt h13 (fun h => (hl h).elim))
          clear h13 hl
          go_wp2
          exact ⟨⟨k + 1, by omega, by go_num, HN.out⟩, by simp [intOf]; omega⟩
    · obtain rfl : k = s.size := by omega
      have hnb := HNO.out.all
      have hl := lines_len s
      have hls := line_size s
      have hb := lines_bts s
      have hli := fun w => lines_ref s (by omega) w
      have hh := head_at s
      have ht := last_at s
      have hre := rawOk_rest s.data.toList hnb
      have hbl := rawOk_blank s.data.toList
      have hrw := fun w => turned_any s ⟨#[34, 34, 34]⟩ ⟨#[92, 34, 34, 34]⟩ (by omega) (by decide) (by decide) (by decide) w
      have hy := rawS_yes s.data.toList
      have hn0 := rawS_no s.data.toList
      have ey := rawE_yes s.data.toList
      have en := rawE_no s.data.toList
      have hlen := turn_len rowL escL s.data.toList (by decide) (by decide)
      rw [← Lib.size_eq] at hlen
      change ∀ w, Calls Tryd.prog 21 _ w (fun e w' => e = .returned (.string ⟨(turn rowL escL s.data.toList).toArray⟩) ∧ w = w') at hrw
      obtain ⟨T, hT, hTd⟩ : ∃ T : ByteArray, T = ⟨(turn rowL escL s.data.toList).toArray⟩ ∧ T.data.toList = turn rowL escL s.data.toList := ⟨_, rfl, by simp⟩
      rw [← hT] at hrw hy
      rw [← hTd, ← Lib.size_eq] at hlen
      have HY := Lib.hid hy
      have HN0 := Lib.hid hn0
      have EY := Lib.hid ey
      have EN := Lib.hid en
      have HRW := Lib.hid hrw
      clear hnb hT hTd hrw hy hn0 ey en
      rw [← hb] at hh ht hre hbl
      clear hb
      generalize hL : linesFrom s 0 0 = L at *
      clear hL
      have HLI := Lib.hid hli
      have HLS := Lib.hid (fun x hx => Nat.le_trans (hls x hx) (show s.size ≤ 4000000 by omega))
      clear hli hls
      obtain ⟨n, hn⟩ : ∃ n, n = L.length := ⟨_, rfl⟩
      have hn1 : 1 ≤ n := by omega
      have hn2 : n ≤ 1000001 := by omega
      have HN := Lib.hid hn
      obtain ⟨x, hx⟩ : ∃ x, L[0]? = some x := ⟨L[0]'(by omega), List.getElem?_eq_getElem _⟩
      obtain ⟨y, hy⟩ : ∃ y, L[n - 1]? = some y := ⟨L[n - 1]'(by omega), List.getElem?_eq_getElem _⟩
      have hh' := hh x hx
      have ht' := ht y (by rw [← hn]; exact hy)
      have hxs := HLS.out x (List.mem_of_getElem? hx)
      have hys := HLS.out y (List.mem_of_getElem? hy)
      have hfx := fun w => first_any x (by omega) w
      have hfy := fun w => first_any y (by omega) w
      have hax := ahd_le x.data.toList
      have hay := ahd_le y.data.toList
      rw [← Lib.size_eq] at hax hay
      rw [hh', ht', blk_size, blk_size] at hbl
      have hre' : (s.data.toList ≠ [] → ¬ ahd x.data.toList = x.size ∧ ¬ ahd y.data.toList = y.size) → rawOk s.data.toList = (ind ([] :: bts L) == 0) := fun h => hre fun h0 => by
        rw [hh', ht', blk_size, blk_size]; obtain ⟨a, b⟩ := h h0; exact ⟨by simpa using a, by simpa using b⟩
      have hbl' : s.data.toList ≠ [] → (ahd x.data.toList = x.size ∨ ahd y.data.toList = y.size) → rawOk s.data.toList = false := fun h0 h => hbl h0 (h.imp (fun e => by rw [e]; simp) (fun e => by rw [e]; simp))
      generalize ahd x.data.toList = ax at *
      generalize ahd y.data.toList = ay at *
      have HX := Lib.hid hx
      have HYY := Lib.hid hy
      have HFX := Lib.hid hfx
      have HFY := Lib.hid hfy
      have HBL := Lib.hid hbl'
      have HRE := Lib.hid hre'
      clear hx hy hfx hfy hbl hbl' hre hre' hh ht hh' ht' hn hl
      go_upto_region 7 with (first | (go_at_call 20; refine (HLI.out _).mono ?_; rintro e w2 ⟨v, rfl, hown, hb2⟩))
      rw [← HN.out] at hown
      obtain ⟨g, cap, hv⟩ := Joins.ownsRow_form hown hn1
      subst hv
      have hrow := own_row hown HN.out.symm
      have hcap := own_cap hown
      unfold maxLen at hcap
      have cx := hrow.2 0 x HX.out
      have cy := hrow.2 (n - 1) y HYY.out
      go_quiet (fail)
      have hBW := below_drewN hb2 nq
      have hrowW : Row (w2.drewN nq) g L := hrow
      generalize w2.drewN nq = W at *
      clear hrow cx cy
      have hgr0 : ∀ (w5 : World) (o : Obj), (W.alloc o).grownBy w5 none → Below W.heap.size W w5 := fun w5 o hg => ((Below.refl W.heap.size W).alloc (Nat.le_refl _) o).grown hg (by simp) (fun j hj => by cases hj)
      have hgr6 : ∀ (w5 w6 : World) (v5 : Value), Below W.heap.size W w5 → w5.ownsRow W.heap.size 9 1 v5 (0 + 1) ([] ++ [.string ⟨#[]⟩]) → w5.grownBy w6 v5.ownBlock → Below W.heap.size W w6 := fun w5 w6 v5 hb ho hg => hb.grown hg hb.size (fun j hj => (ho.lt j hj).1)
      have hnew : ∀ w5, Below W.heap.size W w5 → ∀ j u, (L.map Value.string)[j]? = some u → w5.cell? ((⟨g, 0, none⟩ : Addr).add j) = some u := fun w5 hb j u hu => by
        have hrd := (hrowW.below hb (Nat.le_refl _)).rd
        obtain ⟨ad, e, _, hc⟩ := hrd.2 (by rw [← HN.out]; omega)
        cases e
        exact hc j u hu
      have hone : ∀ u ∈ L.map Value.string, u.oneCell' = true := fun u hu => by
        obtain ⟨z, _, rfl⟩ := List.mem_map.1 hu
        rfl
      have hmapl : (L.map Value.string).length = n := by rw [List.length_map]; exact HN.out.symm
      have hzs : ∀ z ∈ (⟨#[]⟩ : ByteArray) :: L, z.size ≤ 4294967296 := fun z hz => by
        rcases List.mem_cons.1 hz with rfl | hz
        · decide
        · have := HLS.out z hz; omega
      have hbt : bts (⟨#[]⟩ :: L) = [] :: bts L := rfl
      have hfin : ∀ d : Nat, ind ([] :: bts L) = d → (s.data.toList ≠ [] → ¬ ax = x.size ∧ ¬ ay = y.size) → (d = 0 → rawS s.data.toList = ⟨#[10]⟩ ++ T ∧ rawE s.data.toList = 0) ∧ (d ≠ 0 → rawS s.data.toList = ⟨#[]⟩ ∧ rawE s.data.toList = 4) := fun d hd h => by
        have hr := HRE.out h
        rw [hd] at hr
        refine ⟨fun h0 => ?_, fun h0 => ?_⟩
        · have : rawOk s.data.toList = true := by rw [hr, h0]; rfl
          exact ⟨HY.out this, EY.out this⟩
        · have : rawOk s.data.toList = false := by rw [hr]; simp [h0]
          exact ⟨HN0.out this, EN.out this⟩
      obtain ⟨dI, hdI⟩ : ∃ d, ind ([] :: bts L) = d := ⟨_, rfl⟩
      have HFIN := Lib.hid (hfin dI hdI)
      have HDI := Lib.hid hdI
      clear hdI hfin HRE
      by_cases h0 : s.size = 0
      · have hnil : ¬ s.data.toList ≠ [] := fun h => h (List.eq_nil_of_length_eq_zero (by rw [← Lib.size_eq]; exact h0))
        have HNIL := Lib.hid hnil
        have hz0' : ¬ 0 < s.size := by omega
        clear hnil
        by_cases hd0 : dI = 0
        · have hr := (HFIN.out (fun h => (HNIL.out h).elim)).1 hd0
          have HR := Lib.hid hr
          subst hd0
          clear hr
          go_wp2_with (first | (at_builtin; refine wpList_append_own _ rfl _ _ 22 rfl W.heap.size 9 i0 (.string ⟨#[]⟩) 1 16 Tryd.underlying22 hi hz0 hz1 hz2 rfl (by decide) _ 0 [] rfl (World.ownsRow_nil _ _ _ _) ⟨W.heap.size, 0, none⟩ 1 1 [.string ⟨#[]⟩] rfl rfl (cell_one_new _ _ _) (by simp [Value.oneCell']) (by unfold maxLen; omega) (by omega) (by simp) ?_; intro v5 w5 hown5 hgrow5 _; have hB5 := hgr0 _ _ hgrow5) | (at_builtin; refine wpList_append_own _ rfl _ _ 22 rfl W.heap.size 9 i0 (.string ⟨#[]⟩) 1 16 Tryd.underlying22 hi hz0 hz1 hz2 rfl (by decide) _ _ _ rfl hown5 ⟨g, 0, none⟩ n cap (L.map Value.string) rfl (by rw [hmapl, Nat.mul_one]) (hnew _ hB5) hone (by unfold maxLen; omega) (by omega) hB5.size ?_; intro v6 w6 hown6 hgrow6 _; have hB6 := hgr6 _ _ _ hB5 hown5 hgrow6; obtain ⟨A6, c6, rfl, hrd6, _⟩ := Rd.own hown6) | (go_at_call 9; refine (indent_ref _ (1 + n) _ (⟨#[]⟩ :: L) _ (by omega) hrd6 hzs).mono ?_; rintro e w7 ⟨rfl, hb7⟩; rw [hbt, HDI.out]) | (go_at_call 21; refine (HRW.out _).mono ?_; rintro e w8 ⟨rfl, rfl⟩))
          go_ret2
          exact ⟨by rw [HR.out.1, HR.out.2]; rfl, Below_next (Below_next hBW hB6) hb7⟩
        · have hr := (HFIN.out (fun h => (HNIL.out h).elim)).2 hd0
          have HR := Lib.hid hr
          have hdz : ((dI : Int) != 0) = true := by rw [bne_iff_ne]; omega
          clear hr hd0
          go_wp2_with (first | (at_builtin; refine wpList_append_own _ rfl _ _ 22 rfl W.heap.size 9 i0 (.string ⟨#[]⟩) 1 16 Tryd.underlying22 hi hz0 hz1 hz2 rfl (by decide) _ 0 [] rfl (World.ownsRow_nil _ _ _ _) ⟨W.heap.size, 0, none⟩ 1 1 [.string ⟨#[]⟩] rfl rfl (cell_one_new _ _ _) (by simp [Value.oneCell']) (by unfold maxLen; omega) (by omega) (by simp) ?_; intro v5 w5 hown5 hgrow5 _; have hB5 := hgr0 _ _ hgrow5) | (at_builtin; refine wpList_append_own _ rfl _ _ 22 rfl W.heap.size 9 i0 (.string ⟨#[]⟩) 1 16 Tryd.underlying22 hi hz0 hz1 hz2 rfl (by decide) _ _ _ rfl hown5 ⟨g, 0, none⟩ n cap (L.map Value.string) rfl (by rw [hmapl, Nat.mul_one]) (hnew _ hB5) hone (by unfold maxLen; omega) (by omega) hB5.size ?_; intro v6 w6 hown6 hgrow6 _; have hB6 := hgr6 _ _ _ hB5 hown5 hgrow6; obtain ⟨A6, c6, rfl, hrd6, _⟩ := Rd.own hown6) | (go_at_call 9; refine (indent_ref _ (1 + n) _ (⟨#[]⟩ :: L) _ (by omega) hrd6 hzs).mono ?_; rintro e w7 ⟨rfl, hb7⟩; rw [hbt, HDI.out]) | (go_at_call 21; refine (HRW.out _).mono ?_; rintro e w8 ⟨rfl, rfl⟩))
          go_ret2
          exact ⟨by rw [HR.out.1, HR.out.2]; rfl, Below_next (Below_next hBW hB6) hb7⟩
      · obtain ⟨_, hnn⟩ := some_bytes s h0
        have HNN := Lib.hid hnn
        have hz0' : 0 < s.size := by omega
        clear hnn
        by_cases ex : ax = x.size
        · have hr := HBL.out HNN.out (.inl ex)
          have HR := Lib.hid (HN0.out hr)
          have HE := Lib.hid (EN.out hr)
          have hzx : ((ax : Int) == (x.size : Int)) = true := by rw [ex]; simp
          clear hr ex
          go_wp2_with (first | (go_at_call 15; refine (HFX.out _).mono ?_; rintro e w3 ⟨rfl, rfl⟩))
          go_ret2
          exact ⟨by rw [HR.out, HE.out]; rfl, hBW⟩
        · have hzx : ((ax : Int) == (x.size : Int)) = false := by simp; omega
          by_cases ey : ay = y.size
          · have hr := HBL.out HNN.out (.inr ey)
            have HR := Lib.hid (HN0.out hr)
            have HE := Lib.hid (EN.out hr)
            have hzy : ((ay : Int) == (y.size : Int)) = true := by rw [ey]; simp
            clear hr ex ey
            go_wp2_with fail
            refine (HFX.out _).mono ?_
            rintro e w3 ⟨rfl, rfl⟩
            go_wp2_with fail
            refine (HFY.out _).mono ?_
            rintro e w3 ⟨rfl, rfl⟩
            go_wp2
            go_ret2
            exact ⟨by rw [HR.out, HE.out]; rfl, hBW⟩
          · have hzy : ((ay : Int) == (y.size : Int)) = false := by simp; omega
            have HXY := Lib.hid (And.intro ex ey)
            clear ex ey
            by_cases hd0 : dI = 0
            · have hr := (HFIN.out (fun _ => HXY.out)).1 hd0
              have HR := Lib.hid hr
              subst hd0
              clear hr
              go_wp2_with fail
              refine (HFX.out _).mono ?_
              rintro e w3 ⟨rfl, rfl⟩
              go_wp2_with fail
              refine (HFY.out _).mono ?_
              rintro e w3 ⟨rfl, rfl⟩
              go_wp2_with (first | (at_builtin; refine wpList_append_own _ rfl _ _ 22 rfl W.heap.size 9 i0 (.string ⟨#[]⟩) 1 16 Tryd.underlying22 hi hz0 hz1 hz2 rfl (by decide) _ 0 [] rfl (World.ownsRow_nil _ _ _ _) ⟨W.heap.size, 0, none⟩ 1 1 [.string ⟨#[]⟩] rfl rfl (cell_one_new _ _ _) (by simp [Value.oneCell']) (by unfold maxLen; omega) (by omega) (by simp) ?_; intro v5 w5 hown5 hgrow5 _; have hB5 := hgr0 _ _ hgrow5) | (at_builtin; refine wpList_append_own _ rfl _ _ 22 rfl W.heap.size 9 i0 (.string ⟨#[]⟩) 1 16 Tryd.underlying22 hi hz0 hz1 hz2 rfl (by decide) _ _ _ rfl hown5 ⟨g, 0, none⟩ n cap (L.map Value.string) rfl (by rw [hmapl, Nat.mul_one]) (hnew _ hB5) hone (by unfold maxLen; omega) (by omega) hB5.size ?_; intro v6 w6 hown6 hgrow6 _; have hB6 := hgr6 _ _ _ hB5 hown5 hgrow6; obtain ⟨A6, c6, rfl, hrd6, _⟩ := Rd.own hown6) | (go_at_call 9; refine (indent_ref _ (1 + n) _ (⟨#[]⟩ :: L) _ (by omega) hrd6 hzs).mono ?_; rintro e w7 ⟨rfl, hb7⟩; rw [hbt, HDI.out]) | (go_at_call 21; refine (HRW.out _).mono ?_; rintro e w8 ⟨rfl, rfl⟩))
              go_ret2
              exact ⟨by rw [HR.out.1, HR.out.2]; rfl, Below_next (Below_next hBW hB6) hb7⟩
            · have hr := (HFIN.out (fun _ => HXY.out)).2 hd0
              have HR := Lib.hid hr
              have hdz : ((dI : Int) != 0) = true := by rw [bne_iff_ne]; omega
              clear hr hd0
              go_wp2_with fail
              refine (HFX.out _).mono ?_
              rintro e w3 ⟨rfl, rfl⟩
              go_wp2_with fail
              refine (HFY.out _).mono ?_
              rintro e w3 ⟨rfl, rfl⟩
              go_wp2_with (first | (at_builtin; refine wpList_append_own _ rfl _ _ 22 rfl W.heap.size 9 i0 (.string ⟨#[]⟩) 1 16 Tryd.underlying22 hi hz0 hz1 hz2 rfl (by decide) _ 0 [] rfl (World.ownsRow_nil _ _ _ _) ⟨W.heap.size, 0, none⟩ 1 1 [.string ⟨#[]⟩] rfl rfl (cell_one_new _ _ _) (by simp [Value.oneCell']) (by unfold maxLen; omega) (by omega) (by simp) ?_; intro v5 w5 hown5 hgrow5 _; have hB5 := hgr0 _ _ hgrow5) | (at_builtin; refine wpList_append_own _ rfl _ _ 22 rfl W.heap.size 9 i0 (.string ⟨#[]⟩) 1 16 Tryd.underlying22 hi hz0 hz1 hz2 rfl (by decide) _ _ _ rfl hown5 ⟨g, 0, none⟩ n cap (L.map Value.string) rfl (by rw [hmapl, Nat.mul_one]) (hnew _ hB5) hone (by unfold maxLen; omega) (by omega) hB5.size ?_; intro v6 w6 hown6 hgrow6 _; have hB6 := hgr6 _ _ _ hB5 hown5 hgrow6; obtain ⟨A6, c6, rfl, hrd6, _⟩ := Rd.own hown6) | (go_at_call 9; refine (indent_ref _ (1 + n) _ (⟨#[]⟩ :: L) _ (by omega) hrd6 hzs).mono ?_; rintro e w7 ⟨rfl, hb7⟩; rw [hbt, HDI.out]) | (go_at_call 21; refine (HRW.out _).mono ?_; rintro e w8 ⟨rfl, rfl⟩))
              go_ret2
              exact ⟨by rw [HR.out.1, HR.out.2]; rfl, Below_next (Below_next hBW hB6) hb7⟩
end Go.Proofs.YtbpmjpbgdfjhiaaDoor
