/- block.comesAgain, block.Raw, and the document's own Raw. -/
import Derived.Test.YtbpmjpbgdfjhiaaDoorBRefV
set_option linter.unusedVariables false
set_option linter.unusedSimpArgs false
namespace Go.Proofs.YtbpmjpbgdfjhiaaDoor
open Go.RowKit
theorem no_bytes (s : ByteArray) (h : s.size = 0) : s = ⟨#[]⟩ := ByteArray.ext (Array.eq_empty_of_size_eq_zero h)
theorem some_bytes (s : ByteArray) (h : ¬ s.size = 0) : s.toList.isEmpty = false ∧ s.data.toList ≠ [] := by
  rw [Lib.toList_data]
  have := Lib.size_eq s
  cases e : s.data.toList with
  | nil => rw [e, List.length_nil] at this; omega
  | cons a b => exact ⟨rfl, by simp⟩
theorem contains_idx (l : List UInt8) (c : UInt8) : decide (0 ≤ Lib.indexByte l c) = l.contains c := by
  have hg := Lib.indexByte_ge l c
  rw [Bool.eq_iff_iff, decide_eq_true_iff, List.contains_iff_mem]
  constructor
  · intro h
    obtain ⟨o, ho⟩ : ∃ o : Nat, Lib.indexByte l c = o := ⟨(Lib.indexByte l c).toNat, by omega⟩
    exact List.mem_of_getElem? (Lib.indexByte_some ho).1
  · intro h
    obtain ⟨k, hk, e⟩ := List.mem_iff_getElem.1 h
    rcases Int.lt_or_le (Lib.indexByte l c) 0 with h0 | h0
    · exact absurd (by rw [List.getElem?_eq_getElem hk, e]) (Lib.indexByte_none (by omega) k)
    · exact h0
theorem suffix_last (l : List UInt8) (c : UInt8) : Lib.hasSuffix l [c] = (l.getLast? == some c) := by
  unfold Lib.hasSuffix
  rw [Bool.eq_iff_iff, List.isSuffixOf_iff_suffix, beq_iff_eq]
  constructor
  · rintro ⟨t, rfl⟩; simp
  · intro h
    obtain ⟨t, rfl⟩ := List.getLast?_eq_some_iff.1 h
    exact ⟨t, rfl⟩
/-- Is something in it that no such text has? -/
def rawBad (s : List UInt8) : Bool := s.contains 13 || s.getLast? == some 92 || s.getLast? == some 34
theorem rawOk_nil : rawOk [] = true := rfl
theorem rawOk_bad (s : List UInt8) (h : rawBad s = true) : rawOk s = false := by
  unfold rawOk
  have h0 : s ≠ [] := by intro e; subst e; cases h
  rw [if_neg h0]; unfold rawBad at h; rw [if_pos h]
theorem rawOk_blank (s : List UInt8) (h0 : s ≠ []) (h : blk ((lnB s).headD []) = true ∨ blk ((lnB s).getLastD []) = true) : rawOk s = false := by
  unfold rawOk
  rw [if_neg h0]
  split
  · rfl
  · rw [if_pos (by rcases h with h | h; · rw [h]; rfl
                   · rw [h, Bool.or_true])]
theorem rawOk_rest (s : List UInt8) (h : rawBad s = false) (hb : s ≠ [] → blk ((lnB s).headD []) = false ∧ blk ((lnB s).getLastD []) = false) : rawOk s = (ind ([] :: lnB s) == 0) := by
  by_cases h0 : s = []
  · subst h0; rfl
  · obtain ⟨h1, h2⟩ := hb h0
    unfold rawOk; unfold rawBad at h
    rw [if_neg h0, h, if_neg (by simp), h1, h2]; rfl
theorem head_at (s : ByteArray) (x : ByteArray) (h : (linesFrom s 0 0)[0]? = some x) : (lnB s.data.toList).headD [] = x.data.toList := by
  rw [← lines_bts, List.headD_eq_head?_getD, List.head?_eq_getElem?, bts_at _ _ _ h]; rfl
theorem last_at (s : ByteArray) (x : ByteArray) (h : (linesFrom s 0 0)[(linesFrom s 0 0).length - 1]? = some x) : (lnB s.data.toList).getLastD [] = x.data.toList := by
  rw [← lines_bts, List.getLastD_eq_getLast?, List.getLast?_eq_getElem?, bts_len, bts_at _ _ _ h]; rfl
theorem ret_at {w w' : World} {ad : Addr} {v : Value} {B : Nat} (h : w.cell? ad = some v) (hb : Below B w w') (hB : ad.block < B) : w'.cell? ad = some v := (hb.cell hB).trans h
set_option maxHeartbeats 1000000 in
set_option maxRecDepth 100000 in
theorem again_any (s : ByteArray) (hs : s.size ≤ 1000000) (w : World) :
    Calls Tryd.prog 22 #[.string s] w fun e w' => e = .returned (.bool (rawOk s.data.toList)) ∧ Below w.heap.size w w' := by
  obtain ⟨i0, hi, hz0, hz1, hz2⟩ := info_parts info9
  by_cases h0 : s.size = 0
  · obtain rfl := no_bytes s h0
    go_enter Tryd.func22, Tryd.ntmps22
    go_wp2
    go_ret
    exact ⟨rfl, Below.refl _ _⟩
  · obtain ⟨hne, hnn⟩ := some_bytes s h0
    have hc1 := fun w => Tryd.strings_Contains_one s 13 w
    have hc2 := fun w => Tryd.strings_HasSuffix s ⟨#[92]⟩ w (by omega)
    have hc3 := fun w => Tryd.strings_HasSuffix s ⟨#[34]⟩ w (by omega)
    rw [contains_idx] at hc1
    change ∀ w, Calls Tryd.prog 31 _ w (fun e w' => e = .returned (.bool (Lib.hasSuffix s.data.toList [92])) ∧ w' = w) at hc2
    change ∀ w, Calls Tryd.prog 31 _ w (fun e w' => e = .returned (.bool (Lib.hasSuffix s.data.toList [34])) ∧ w' = w) at hc3
    rw [suffix_last] at hc2 hc3
    have hbad : rawBad s.data.toList = (s.data.toList.contains 13 || s.data.toList.getLast? == some 92 || s.data.toList.getLast? == some 34) := rfl
    have hyes := rawOk_bad s.data.toList
    have hbl := rawOk_blank s.data.toList hnn
    have hre := rawOk_rest s.data.toList
    rw [hbad] at hyes hre
    clear hbad
    generalize s.data.toList.contains 13 = c1 at *
    generalize (s.data.toList.getLast? == some 92) = c2 at *
    generalize (s.data.toList.getLast? == some 34) = c3 at *
    have H1 := Lib.hid hc1
    have H2 := Lib.hid hc2
    have H3 := Lib.hid hc3
    clear hc1 hc2 hc3
    cases c1
    · cases c2
      · cases c3
        · have hl := lines_len s
          have hls := line_size s
          have hb := lines_bts s
          have hli := fun w => lines_any s (by omega) w
          have hh := head_at s
          have ht := last_at s
          have hre' := hre rfl
          rw [← hb] at hre' hh ht hbl
          clear hyes hre hb
          generalize hL : linesFrom s 0 0 = L at *
          clear hL
          have HLI := Lib.hid hli
          have HLS := Lib.hid (fun x hx => Nat.le_trans (hls x hx) (show s.size ≤ 4000000 by omega))
          have HRE := Lib.hid hre'
          clear hli hls hre'
          obtain ⟨n, hn⟩ : ∃ n, n = L.length := ⟨_, rfl⟩
          have hn1 : 1 ≤ n := by omega
          have hn2 : n ≤ 1000001 := by omega
          have HN := Lib.hid hn
          obtain ⟨x, hx⟩ : ∃ x, L[0]? = some x := ⟨L[0]'(by omega), List.getElem?_eq_getElem _⟩
          obtain ⟨y, hy⟩ : ∃ y, L[n - 1]? = some y := ⟨L[n - 1]'(by omega), List.getElem?_eq_getElem _⟩
          have hh' := hh x hx
          have ht' := ht y (by rw [← hn]; exact hy)
          have hbx := fun w => blank_any x (by have := HLS.out x (List.mem_of_getElem? hx); omega) w
          have hby := fun w => blank_any y (by have := HLS.out y (List.mem_of_getElem? hy); omega) w
          rw [hh', ht'] at hbl
          have hnb : blk x.data.toList = false ∧ blk y.data.toList = false → rawOk s.data.toList = (ind ([] :: bts L) == 0) := fun h => HRE.out fun _ => by rw [hh', ht']; exact h
          generalize blk x.data.toList = bx at *
          generalize blk y.data.toList = bY at *
          have HX := Lib.hid hx
          have HY := Lib.hid hy
          have HBX := Lib.hid hbx
          have HBY := Lib.hid hby
          have HBL := Lib.hid hbl
          have HNB := Lib.hid hnb
          clear hx hy hbx hby hbl hnb hh ht hh' ht' hl hn HRE
          go_enter Tryd.func22, Tryd.ntmps22
          go_upto_region 6 with (first | (go_at_call 30; refine (H1.out _).mono ?_; rintro e w1 ⟨rfl, rfl⟩) | (go_at_call 31; first | (refine (H2.out _).mono ?_; rintro e w1 ⟨rfl, rfl⟩) | (refine (H3.out _).mono ?_; rintro e w1 ⟨rfl, rfl⟩)) | (go_at_call 16; refine (HLI.out _).mono ?_; rintro e w2 ⟨v, rfl, hown, hb2⟩))
          rw [← HN.out] at hown
          obtain ⟨g, cap, hv⟩ := Joins.ownsRow_form hown hn1
          subst hv
          have hrow := own_row hown HN.out.symm
          have hcap := own_cap hown
          unfold maxLen at hcap
          have cx := hrow.2 0 x HX.out
          have cy := hrow.2 (n - 1) y HY.out
          have hB2 := hb2
          cases bx
          · have hxy : ∀ w3, Below w2.heap.size w2 w3 → w3.cell? ⟨g, n - 1, none⟩ = some (.string y) := fun w3 hb => ret_at cy hb hrow.1
            have HXY := Lib.hid hxy
            clear hxy
            cases bY
            · have HR := Lib.hid (HNB.out ⟨rfl, rfl⟩)
              clear HBL HNB
              go_upto_region 8 with (first | (go_at_call 29; first | (refine (HBY.out _).mono ?_; rintro e w4 ⟨rfl, hb4⟩) | (refine (HBX.out _).mono ?_; rintro e w3 ⟨rfl, hb3⟩; have cy3 := HXY.out _ hb3)))
              have hB4 := Below_next hB2 (Below_next hb3 hb4)
              have hrow4 := hrow.below (Below_next hb3 hb4) (Nat.le_refl _)
              have hnew : ∀ j u, (L.map Value.string)[j]? = some u → (w4.alloc (.cells #[Value.string ⟨#[]⟩] 9)).cell? ((⟨g, 0, none⟩ : Addr).add j) = some u := fun j u hu => by
                have hrd := (hrow4.below ((Below.refl w4.heap.size w4).alloc (Nat.le_refl _) (.cells #[Value.string ⟨#[]⟩] 9)) (Nat.le_refl _)).rd
                obtain ⟨ad, e, _, hc⟩ := hrd.2 (by rw [← HN.out]; omega)
                cases e
                exact hc j u hu
              have hone : ∀ u ∈ L.map Value.string, u.oneCell' = true := fun u hu => by
                obtain ⟨z, _, rfl⟩ := List.mem_map.1 hu
                rfl
              have hlit := World.ownsRow_lit (base := w4.heap.size) (e := 9) (size := 1) w4 #[Value.string ⟨#[]⟩] 1 (Nat.le_refl _) (by unfold maxLen; omega) rfl
              have hmapl : (L.map Value.string).length = n := by rw [List.length_map]; exact HN.out.symm
              have hgrB : ∀ (w6 : World) (o : Obj) (k : Nat), (w4.alloc o).grownBy w6 (some k) → w4.heap.size ≤ k → Below w1.heap.size w1 w6 := fun w6 o k hg hk => (hB4.alloc hB4.size o).grown hg (by have := hB4.size; simp; omega) (fun j hj => by have := hB4.size; cases hj; omega)
              have hzs : ∀ z ∈ (⟨#[]⟩ : ByteArray) :: L, z.size ≤ 4294967296 := fun z hz => by
                rcases List.mem_cons.1 hz with rfl | hz
                · decide
                · have := HLS.out z hz; omega
              go_wp2_with (first | (at_builtin; refine wpList_append_own _ rfl _ _ 22 rfl w4.heap.size 9 i0 (.string ⟨#[]⟩) 1 16 Tryd.underlying22 hi hz0 hz1 hz2 rfl (by decide) _ 1 [.string ⟨#[]⟩] rfl hlit ⟨g, 0, none⟩ n cap (L.map Value.string) rfl (by rw [hmapl, Nat.mul_one]) hnew hone (by unfold maxLen; omega) (by omega) (by simp) ?_; intro v' w6 hown6 hgrow _; obtain ⟨A6, c6, rfl, hrd6, _⟩ := Rd.own hown6; have hB6 := hgrB _ _ _ hgrow (Nat.le_refl _)) | (go_at_call 8; refine (indent_any _ (1 + n) _ (⟨#[]⟩ :: L) _ (by omega) hrd6 hzs).mono ?_; rintro e w7 ⟨rfl, hb7⟩))
              go_ret
              refine ⟨ret_bool ?_, Below_next hB6 hb7⟩
              rw [HR.out, Bool.eq_iff_iff]
              show _ ↔ (ind ([] :: bts L) == 0) = true
              have : bts (⟨#[]⟩ :: L) = [] :: bts L := rfl
              rw [this]; simp
            · have HY1 := Lib.hid (HBL.out (.inr rfl))
              go_wp2_with (first | (go_at_call 29; first | (refine (HBY.out _).mono ?_; rintro e w4 ⟨rfl, hb4⟩) | (refine (HBX.out _).mono ?_; rintro e w3 ⟨rfl, hb3⟩; have cy3 := HXY.out _ hb3)))
              go_ret
              exact ⟨by rw [HY1.out]; rfl, Below_next (Below_next hB2 hb3) hb4⟩
          · have HY1 := Lib.hid (HBL.out (.inl rfl))
            go_wp2_with (first | (go_at_call 29; refine (HBX.out _).mono ?_; rintro e w3 ⟨rfl, hb3⟩))
            go_ret
            exact ⟨by rw [HY1.out]; rfl, Below_next hB2 hb3⟩
        · have HY := Lib.hid (hyes rfl)
          rw [HY.out]
          go_enter Tryd.func22, Tryd.ntmps22
          go_wp2_with (first | (go_at_call 30; refine (H1.out _).mono ?_; rintro e w1 ⟨rfl, rfl⟩) | (go_at_call 31; first | (refine (H2.out _).mono ?_; rintro e w1 ⟨rfl, rfl⟩) | (refine (H3.out _).mono ?_; rintro e w1 ⟨rfl, rfl⟩)))
          go_ret
          exact ⟨rfl, Below.refl _ _⟩
      · have HY := Lib.hid (hyes rfl)
        rw [HY.out]
        go_enter Tryd.func22, Tryd.ntmps22
        go_wp2_with (first | (go_at_call 30; refine (H1.out _).mono ?_; rintro e w1 ⟨rfl, rfl⟩) | (go_at_call 31; first | (refine (H2.out _).mono ?_; rintro e w1 ⟨rfl, rfl⟩) | (refine (H3.out _).mono ?_; rintro e w1 ⟨rfl, rfl⟩)))
        go_ret
        exact ⟨rfl, Below.refl _ _⟩
    · have HY := Lib.hid (hyes rfl)
      rw [HY.out]
      go_enter Tryd.func22, Tryd.ntmps22
      go_wp2_with (first | (go_at_call 30; refine (H1.out _).mono ?_; rintro e w1 ⟨rfl, rfl⟩) | (go_at_call 31; first | (refine (H2.out _).mono ?_; rintro e w1 ⟨rfl, rfl⟩) | (refine (H3.out _).mono ?_; rintro e w1 ⟨rfl, rfl⟩)))
      go_ret
      exact ⟨rfl, Below.refl _ _⟩
end Go.Proofs.YtbpmjpbgdfjhiaaDoor
