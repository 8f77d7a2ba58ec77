/- The document's own Value. -/
import Derived.Test.YtbpmjpbgdfjhiaaDoorBEdg
import Derived.Test.YtbpmjpbgdfjhiaaDoorBLinR
import Derived.Deep.CutRange
set_option linter.unusedVariables false
set_option linter.unusedSimpArgs false
namespace Go.Proofs.YtbpmjpbgdfjhiaaDoor
open Go.RowKit
theorem join_snoc (xs : List (List UInt8)) (y : List UInt8) : Lib.join (xs ++ [y]) [10] = if xs.length = 0 then y else Lib.join xs [10] ++ ([10] ++ y) := by
  cases xs with
  | nil => rw [List.nil_append, Lib.join_one]; rfl
  | cons x r =>
    rw [if_neg (by simp), List.cons_append, Lib.join_cons, Lib.join_cons]
    unfold Lib.joinTail; simp
theorem cell_of {w : World} {g : Nat} {L : List ByteArray} (h : Row w g L) (k : Nat) (x : ByteArray) (hx : L[k]? = some x) : w.cell? ⟨g, k, none⟩ = some (.string x) := h.2 k x hx
/-- Where the lines that aren't blank begin, as the document has it. -/
def frR (n : Nat) (p : Nat × Nat) : Nat := if p.2 = 0 then n else p.1
set_option maxHeartbeats 2000000 in
set_option maxRecDepth 100000 in
theorem value_ref (s : ByteArray) (hs : s.size ≤ 1000000) (w : World) :
    Calls Tryd.prog 11 #[.string s] w fun e w' => e = .returned (.string ⟨(valM s.data.toList).toArray⟩) ∧ Below w.heap.size w w' := by
  obtain ⟨i0, hi, hz0, hz1, hz2⟩ := info_parts info9
  have hrw := turned_any s ⟨#[92, 34, 34, 34]⟩ ⟨#[34, 34, 34]⟩ (by omega) (by decide) (by decide) (by decide) w
  have hlen := turn_len escL rowL s.data.toList (by decide) (by decide)
  rw [← Lib.size_eq] at hlen
  have hval : (valM s.data.toList) = valL (turn escL rowL s.data.toList) := rfl
  rw [hval]
  change Calls Tryd.prog 21 _ w (fun e w' => e = .returned (.string ⟨(turn escL rowL s.data.toList).toArray⟩) ∧ w = w') at hrw
  obtain ⟨T, hT, hTd⟩ : ∃ T : ByteArray, T = ⟨(turn escL rowL s.data.toList).toArray⟩ ∧ T.data.toList = turn escL rowL s.data.toList := ⟨_, rfl, by simp⟩
  rw [← hT] at hrw
  rw [← hTd] at hlen ⊢
  rw [← Lib.size_eq] at hlen
  have HRW := Lib.hid hrw
  clear hrw hT hTd hval
  have hl := lines_len T
  have hls := line_size T
  have hb := lines_bts T
  have hlb := linesB_lens T.data.toList false []
  rw [List.length_nil, ← Lib.size_eq] at hlb
  change Lib.lens (lnB T.data.toList) + (lnB T.data.toList).length ≤ _ at hlb
  rw [← hb] at hlb
  have hli := fun w => lines_ref T (by omega) w
  have hv : valL T.data.toList = Lib.join (edg (cutL (ind (bts (linesFrom T 0 0))) (bts (linesFrom T 0 0)))) [10] := by rw [hb]; rfl
  rw [hv]
  clear hv hb
  generalize hL : linesFrom T 0 0 = L at *
  clear hL
  have HLI := Lib.hid hli
  have HLS := Lib.hid (fun x hx => Nat.le_trans (hls x hx) (show T.size ≤ 4000000 by omega))
  clear hli hls
  obtain ⟨n, hn⟩ : ∃ n, n = L.length := ⟨_, rfl⟩
  have hn1 : 1 ≤ n := by omega
  have hn2 : n ≤ 4000001 := by omega
  obtain ⟨d, hd⟩ : ∃ d, d = ind (bts L) := ⟨_, rfl⟩
  rw [← hd]
  have hma := mixA_all d L
  have hms := mixA_size d L n 4000000 HLS.out
  have hml := mixA_len d L n
  have hat := mixA_at d L n
  rw [← hn] at hma
  have hcl := cut_lens d (bts L)
  rw [← hma] at hcl ⊢
  have HN := Lib.hid hn
  have HD := Lib.hid hd
  rw [← hn] at hml
  have hJ : Lib.lens (bts (mixA d L n)) + n ≤ 4000001 := by rw [bts_len] at hlb; omega
  have HJ := Lib.hid hJ
  clear hl hn hd hlb hma hcl hJ
  generalize hM : mixA d L n = M at *
  clear hM
  have HMS := Lib.hid hms
  have HML := Lib.hid hml
  have HAT := Lib.hid hat
  clear hms hml hat
  go_enter Tryd.func11, Tryd.ntmps11
  go_wp2_with (first | (go_at_call 21; refine HRW.out.mono ?_; rintro e w1 ⟨rfl, rfl⟩) | (go_at_call 20; refine (HLI.out _).mono ?_; rintro e w2 ⟨v, rfl, hown, hb2⟩))
  rw [← HN.out] at hown
  obtain ⟨g, cap, hv⟩ := Joins.ownsRow_form hown hn1
  subst hv
  have hrow := own_row hown HN.out.symm
  obtain ⟨hc1, hc2⟩ := own_cap hown
  have hc3 := hc2
  unfold maxLen at hc3
  have hrd := hrow.rd
  rw [← HN.out] at hrd
  go_wp2_with (go_at_call 9; refine (indent_ref _ n cap L _ (by omega) hrd (fun x hx => by have := HLS.out x hx; omega)).mono ?_; rintro e w3 ⟨rfl, hb3⟩)
  rw [← HD.out]
  have hrow3 := hrow.below hb3 (Nat.le_refl _)
  have hB3 := Below_next hb2 hb3
  clear hown hrow hrd hb2 hb3
  go_loopw [5, 6, 7, 8] (fun f t v i wr => ∃ k : Nat, k ≤ n ∧ i = .int .i64 k ∧ f = .int .i64 (frR n (ft ((bts M).take k)) : Nat) ∧ t = .int .i64 ((ft ((bts M).take k)).2 : Nat) ∧ wr.ownsRow w3.heap.size 9 1 v (M.take k).length ((M.take k).map Value.string) ∧ Below w3.heap.size w3 wr) (fun _ _ _ i _ => n - (intOf i).toNat)
  case atStart => exact ⟨0, Nat.zero_le _, rfl, rfl, rfl, World.ownsRow_nil _ _ _ _, Below.refl _ _⟩
  case round =>
    obtain ⟨k, hk, rfl, rfl, rfl, hown, hbr⟩ := hrel
    by_cases hlt : k < n
    · obtain ⟨x, hx⟩ : ∃ x, L[k]? = some x := ⟨L[k]'(by have := HN.out; omega), List.getElem?_eq_getElem _⟩
      have hxs := HLS.out x (List.mem_of_getElem? hx)
      have cx := cell_of (hrow3.below hbr (Nat.le_refl _)) k x hx
      obtain ⟨y, hy, hyx⟩ : ∃ y, M[k]? = some y ∧ y = if k = 0 then x else x.extract (min (d : Int) (x.size : Int)).toNat x.size := by
        have e := HAT.out k
        rw [hx, Option.map_some] at e
        refine ⟨_, e, ?_⟩
        by_cases h0 : k = 0
        · rw [if_pos h0, if_neg (by omega)]
        · rw [if_neg h0, if_pos ⟨by omega, hlt⟩]; unfold cutA
          rw [show min d x.size = (min (d : Int) (x.size : Int)).toNat by omega]
      have hys := HMS.out y (List.mem_of_getElem? hy)
      have hnx := ft_next (bts M) k _ (bts_at M k y hy)
      have hft : (ft ((bts M).take k)).1 < (ft ((bts M).take k)).2 ∧ (ft ((bts M).take k)).2 ≤ k ∨ (ft ((bts M).take k)).2 = 0 := by
        rcases ft_says k (bts M) (by rw [bts_len, HML.out]; omega) with ⟨e, _⟩ | ⟨h1, h2, _⟩
        · rw [e]; exact .inr rfl
        · exact .inl ⟨h1, h2⟩
      have htk : M.take (k + 1) = M.take k ++ [y] := by rw [List.take_add_one, hy]; rfl
      have HTK := Lib.hid htk
      have hlk : (M.take k).length = k := by rw [List.length_take, HML.out]; omega
      have HLK := Lib.hid hlk
      have hfi := fun w => first_any y (by omega) w
      have hal := ahd_le y.data.toList
      rw [← Lib.size_eq] at hal
      have hbk := blk_size y
      have HNX := Lib.hid hnx
      have HBK := Lib.hid hbk
      clear hx hy hnx htk hbk hlk
      obtain ⟨⟨f, t⟩, hp⟩ : ∃ p, ft ((bts M).take k) = p := ⟨_, rfl⟩
      rw [hp] at hft HNX ⊢
      clear hp
      generalize blk y.data.toList = bk at *
      generalize ahd y.data.toList = a at *
      have HFI := Lib.hid hfi
      clear hfi
      have hlk2 : (M.take k).length ≤ 4294967295 := by rw [HLK.out]; omega
      by_cases h0 : k = 0
      · subst h0
        rw [if_pos rfl] at hyx
        subst hyx
        by_cases he : a = (y).size
        · obtain rfl : bk = true := by rw [HBK.out]; simp [he]
          have HO : Hid (ft ((bts M).take (0 + 1)) = (f, t)) := Lib.hid (by rw [HNX.out]; rfl)
          have hge : ¬ a < (y).size := by omega
          clear he
          go_wp2_with (first | (go_at_call 15; refine (HFI.out _).mono ?_; rintro e w5 ⟨rfl, rfl⟩) | (at_builtin; refine wpList_append_own _ rfl _ _ 22 rfl w3.heap.size 9 i0 (.string ⟨#[]⟩) 1 16 Tryd.underlying22 hi hz0 hz1 hz2 rfl (by decide) _ _ _ rfl (hown.alloc _) ⟨wr.heap.size, 0, none⟩ 1 1 [.string y] rfl rfl (cell_one_new _ _ _) (by simp [Value.oneCell']) (by unfold maxLen; omega) (by omega) (by have := hbr.size; simp; omega) ?_; intro v' w4 hown4 hgrow _))
          obtain ⟨r1, r2, r3⟩ := rel_put0 hown hbr hbr.size hown4 hgrow
          refine ⟨⟨0 + 1, by omega, by go_num, by rw [HO.out], by rw [HO.out], ?_, r2⟩, by simp [intOf]; omega⟩
          rw [HTK.out]; exact r1
        · obtain rfl : bk = false := by rw [HBK.out]; simpa using he
          have hge : a < (y).size := by omega
          clear he
          by_cases ht : t = 0
          · subst ht
            have HO : Hid (ft ((bts M).take (0 + 1)) = (0, 0 + 1)) := Lib.hid (by rw [HNX.out]; rfl)
            have hfr : frR n (f, 0) = n := rfl
            rw [hfr]
            clear hfr
            go_wp2_with (first | (go_at_call 15; refine (HFI.out _).mono ?_; rintro e w5 ⟨rfl, rfl⟩) | (at_builtin; refine wpList_append_own _ rfl _ _ 22 rfl w3.heap.size 9 i0 (.string ⟨#[]⟩) 1 16 Tryd.underlying22 hi hz0 hz1 hz2 rfl (by decide) _ _ _ rfl (hown.alloc _) ⟨wr.heap.size, 0, none⟩ 1 1 [.string y] rfl rfl (cell_one_new _ _ _) (by simp [Value.oneCell']) (by unfold maxLen; omega) (by omega) (by have := hbr.size; simp; omega) ?_; intro v' w4 hown4 hgrow _))
            obtain ⟨r1, r2, r3⟩ := rel_put0 hown hbr hbr.size hown4 hgrow
            refine ⟨⟨0 + 1, by omega, by go_num, by rw [HO.out]; exact val_int (by show min (n : Int) ((0 : Nat) : Int) = ((0 : Nat) : Int); omega), by rw [HO.out]; exact val_int (by show _ = ((0 + 1 : Nat) : Int); omega), ?_, r2⟩, by simp [intOf]; omega⟩
            rw [HTK.out]; exact r1
          · exfalso; have := hft.resolve_right ht; omega
      · rw [if_neg h0] at hyx
        have hk1 : 1 ≤ k := by omega
        have HYX := Lib.hid hyx.symm
        clear h0 hyx
        go_upto_region 11 with fail
        rw [HYX.out]
        by_cases he : a = (y).size
        · obtain rfl : bk = true := by rw [HBK.out]; simp [he]
          have HO : Hid (ft ((bts M).take (k + 1)) = (f, t)) := Lib.hid (by rw [HNX.out]; rfl)
          have hge : ¬ a < (y).size := by omega
          clear he
          go_wp2_with (first | (go_at_call 15; refine (HFI.out _).mono ?_; rintro e w5 ⟨rfl, rfl⟩) | (at_builtin; refine wpList_append_own _ rfl _ _ 22 rfl w3.heap.size 9 i0 (.string ⟨#[]⟩) 1 16 Tryd.underlying22 hi hz0 hz1 hz2 rfl (by decide) _ _ _ rfl (hown.alloc _) ⟨wr.heap.size, 0, none⟩ 1 1 [.string y] rfl rfl (cell_one_new _ _ _) (by simp [Value.oneCell']) (by unfold maxLen; omega) (by omega) (by have := hbr.size; simp; omega) ?_; intro v' w4 hown4 hgrow _))
          obtain ⟨r1, r2, r3⟩ := rel_put0 hown hbr hbr.size hown4 hgrow
          refine ⟨⟨k + 1, by omega, by go_num, by rw [HO.out], by rw [HO.out], ?_, r2⟩, by simp [intOf]; omega⟩
          rw [HTK.out]; exact r1
        · obtain rfl : bk = false := by rw [HBK.out]; simpa using he
          have hge : a < (y).size := by omega
          clear he
          by_cases ht : t = 0
          · subst ht
            have HO : Hid (ft ((bts M).take (k + 1)) = (k, k + 1)) := Lib.hid (by rw [HNX.out]; rfl)
            have hfr : frR n (f, 0) = n := rfl
            rw [hfr]
            clear hfr
            go_wp2_with (first | (go_at_call 15; refine (HFI.out _).mono ?_; rintro e w5 ⟨rfl, rfl⟩) | (at_builtin; refine wpList_append_own _ rfl _ _ 22 rfl w3.heap.size 9 i0 (.string ⟨#[]⟩) 1 16 Tryd.underlying22 hi hz0 hz1 hz2 rfl (by decide) _ _ _ rfl (hown.alloc _) ⟨wr.heap.size, 0, none⟩ 1 1 [.string y] rfl rfl (cell_one_new _ _ _) (by simp [Value.oneCell']) (by unfold maxLen; omega) (by omega) (by have := hbr.size; simp; omega) ?_; intro v' w4 hown4 hgrow _))
            obtain ⟨r1, r2, r3⟩ := rel_put0 hown hbr hbr.size hown4 hgrow
            refine ⟨⟨k + 1, by omega, by go_num, by rw [HO.out]; exact val_int (by show min (n : Int) ((k : Nat) : Int) = ((k : Nat) : Int); omega), by rw [HO.out]; exact val_int (by show _ = ((k + 1 : Nat) : Int); omega), ?_, r2⟩, by simp [intOf]; omega⟩
            rw [HTK.out]; exact r1
          · have HO : Hid (ft ((bts M).take (k + 1)) = (f, k + 1)) := Lib.hid (by rw [HNX.out, if_neg (by simp)]; show (if t = 0 then k else f, k + 1) = _; rw [if_neg ht])
            have hfr : frR n (f, t) = f := by unfold frR; rw [if_neg ht]
            rw [hfr]
            have hfk : f < t ∧ t ≤ k := hft.resolve_right ht
            clear hfr ht
            go_wp2_with (first | (go_at_call 15; refine (HFI.out _).mono ?_; rintro e w5 ⟨rfl, rfl⟩) | (at_builtin; refine wpList_append_own _ rfl _ _ 22 rfl w3.heap.size 9 i0 (.string ⟨#[]⟩) 1 16 Tryd.underlying22 hi hz0 hz1 hz2 rfl (by decide) _ _ _ rfl (hown.alloc _) ⟨wr.heap.size, 0, none⟩ 1 1 [.string y] rfl rfl (cell_one_new _ _ _) (by simp [Value.oneCell']) (by unfold maxLen; omega) (by omega) (by have := hbr.size; simp; omega) ?_; intro v' w4 hown4 hgrow _))
            obtain ⟨r1, r2, r3⟩ := rel_put0 hown hbr hbr.size hown4 hgrow
            refine ⟨⟨k + 1, by omega, by go_num, by rw [HO.out]; exact val_int (by show min (f : Int) ((k : Nat) : Int) = (f : Int); omega), by rw [HO.out]; exact val_int (by show _ = ((k + 1 : Nat) : Int); omega), ?_, r2⟩, by simp [intOf]; omega⟩
            rw [HTK.out]; exact r1
    · obtain rfl : k = n := by omega
      have e1 : (bts M).take k = bts M := List.take_of_length_le (by rw [bts_len, HML.out]; exact Nat.le_refl _)
      have e2 : M.take k = M := List.take_of_length_le (by rw [HML.out]; exact Nat.le_refl _)
      rw [e1]
      rw [e2] at hown
      obtain ⟨g2, cap2, hv⟩ := Joins.ownsRow_form hown (by rw [HML.out]; omega)
      subst hv
      have hrow2 := own_row hown rfl
      have hgc := own_cap hown
      have hcap2 : k ≤ cap2 ∧ cap2 ≤ 2 ^ 63 - 1 := by rw [HML.out] at hgc; unfold maxLen at hgc; exact hgc
      obtain ⟨⟨f, t⟩, hp⟩ : ∃ p, ft (bts M) = p := ⟨_, rfl⟩
      have hel := edg_len (bts M)
      have hes := edg_lens (bts M)
      rw [hp] at hel ⊢
      have hq : t = 0 ∧ f = 0 ∨ (f < t ∧ t ≤ k) := by
        rcases ft_whole (bts M) with ⟨e, _⟩ | ⟨h1, h2, _⟩
        · rw [hp] at e; cases e; exact .inl ⟨rfl, rfl⟩
        · rw [hp, bts_len, HML.out] at h2; rw [hp] at h1; exact .inr ⟨h1, h2⟩
      obtain ⟨F, hF⟩ : ∃ F, F = frR k (f, t) := ⟨_, rfl⟩
      have hFt : (t = 0 ∧ F = k) ∨ (F = f ∧ f < t ∧ t ≤ k) := by
        rcases hq with ⟨h1, h2⟩ | ⟨h1, h2⟩
        · exact .inl ⟨h1, by rw [hF]; unfold frR; rw [if_pos h1]⟩
        · exact .inr ⟨by rw [hF]; unfold frR; rw [if_neg (by simp only; omega)], h1, h2⟩
      rw [← hF]
      have hat2 : ∀ j z, f ≤ j → j < t → M[j]? = some z → (edg (bts M))[j - f]? = some z.data.toList := by
        intro j z h1 h2 hz
        unfold edg
        rw [hp, List.getElem?_take, if_pos (by simp only; omega), List.getElem?_drop, show f + (j - f) = j by omega]
        exact bts_at M j z hz
      have HA2 := Lib.hid hat2
      have hJ2 : Lib.lens (edg (bts M)) + (edg (bts M)).length ≤ 4000001 := by have := HJ.out; rw [bts_len, HML.out] at hes; omega
      have HJ2 := Lib.hid hJ2
      have HEL := Lib.hid hel
      clear hat2 hJ2 hel hes hp hq hF e1 e2
      obtain ⟨E, hE⟩ : ∃ E, edg (bts M) = E := ⟨_, rfl⟩
      have HEE := Lib.hid hE
      rw [hE] at HA2 HJ2 HEL
      clear hE
      go_wp2
      go_loop [10, 11] (fun o i => ∃ (j : Nat) (S : ByteArray), F ≤ j ∧ (j ≤ t ∨ j = F) ∧ i = .int .i64 j ∧ o = .string S ∧ S.data.toList = Lib.join (E.take (j - F)) [10]) (fun _ i => t - (intOf i).toNat)
      case atStart => exact ⟨F, ⟨#[]⟩, Nat.le_refl _, .inr rfl, rfl, rfl, by simp [Lib.join_nil]⟩
      case round =>
        obtain ⟨j, S, hj1, hj2, rfl, rfl, hS⟩ := hrel
        have HS := Lib.hid hS
        have hSz : S.size ≤ 4000001 := by
          have h1 := join_len (E.take (j - F))
          have h2 := Lib.lens_take_le E (j - F)
          have h3 : (E.take (j - F)).length ≤ E.length := by rw [List.length_take]; omega
          have h4 := HJ2.out
          rw [← hS, ← Lib.size_eq] at h1
          omega
        clear hS
        by_cases hlt2 : j < t
        · obtain ⟨hFf, hft2, htk⟩ : F = f ∧ f < t ∧ t ≤ k := hFt.resolve_left (by omega)
          subst hFf
          obtain ⟨z, hz⟩ : ∃ z, M[j]? = some z := ⟨M[j]'(by have := HML.out; omega), List.getElem?_eq_getElem _⟩
          have hzs := HMS.out z (List.mem_of_getElem? hz)
          have cz := cell_of hrow2 j z hz
          have hjm : j < M.length := by rw [HML.out]; omega
          have hez := HA2.out j z hj1 hlt2 hz
          have htk1 : E.take (j + 1 - F) = E.take (j - F) ++ [z.data.toList] := by
            rw [show j + 1 - F = (j - F) + 1 by omega, List.take_add_one, hez]; rfl
          have hlk : (E.take (j - F)).length = j - F := by
            have := (List.getElem?_eq_some_iff.1 hez).1
            rw [List.length_take]; omega
          have hsn := join_snoc (E.take (j - F)) z.data.toList
          rw [← htk1, hlk, ← HS.out] at hsn
          have HSN := Lib.hid hsn
          clear hz hez htk1 hlk hsn
          by_cases he : j = F
          · subst he
            have HSN2 := Lib.hid (HSN.out.trans (if_pos (by omega)))
            have HS0 : Hid (S = ⟨#[]⟩) := Lib.hid (ByteArray.ext (by have := HS.out; rw [Nat.sub_self, List.take_zero, Lib.join_nil] at this; exact Array.toList_inj.1 (by simpa using this)))
            go_wp2
            refine ⟨⟨j + 1, S ++ z, by omega, .inl (by omega), by go_num, rfl, ?_⟩, by simp [intOf] <;> omega⟩
            rw [HSN2.out, app_data, HS0.out]; simp
          · have HSN2 := Lib.hid (HSN.out.trans (if_neg (by omega)))
            have hgt : F < j := by omega
            clear he
            go_wp2
            refine ⟨⟨j + 1, S ++ ⟨#[10]⟩ ++ z, by omega, .inl (by omega), by go_num, rfl, ?_⟩, by simp [intOf] <;> omega⟩
            rw [HSN2.out, app_data, app_data]; simp
        · have HE : Hid (E.take (j - F) = E) := Lib.hid (List.take_of_length_le (by rw [HEL.out]; omega))
          go_wp2
          go_ret
          refine ⟨?_, Below_next hB3 hbr⟩
          have h1 := HS.out
          rw [HE.out] at h1
          rw [HEE.out, ← h1]
          show Ending.returned (.string S) = _
          simp
end Go.Proofs.YtbpmjpbgdfjhiaaDoor
