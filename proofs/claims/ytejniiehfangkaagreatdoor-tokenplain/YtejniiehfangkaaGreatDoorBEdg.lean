/- block.withoutEdges and block.Value. -/
import Derived.Test.YtejniiehfangkaaGreatDoorBRow
import Derived.Test.YtejniiehfangkaaGreatDoorBPlainB
import Derived.Laws.OwnMore
set_option linter.unusedVariables false
set_option linter.unusedSimpArgs false
namespace Go.Proofs.YtejniiehfangkaaGreatDoor.Bk
open Go.RowKit
/-- A row of texts that stands in the world. -/
def Row (w : World) (g : Nat) (L : List ByteArray) : Prop := g < w.heap.size ∧ ∀ (j : Nat) x, L[j]? = some x → w.cell? ⟨g, j, none⟩ = some (.string x)
theorem Row.below {w w' : World} {g B : Nat} {L : List ByteArray} (h : Row w g L) (hb : Below B w w') (hB : w.heap.size ≤ B) : Row w' g L :=
  ⟨by have := h.1; have := hb.size; omega, fun j x hx => (hb.cell (p := ⟨g, j, none⟩) (by have := h.1; show g < B; omega)).trans (h.2 j x hx)⟩
theorem Row.rd {w : World} {g : Nat} {L : List ByteArray} (h : Row w g L) : Rd w (some ⟨g, 0, none⟩) L.length (L.map Value.string) :=
  ⟨by simp, fun _ => ⟨_, rfl, h.1, fun j u hu => by
    rw [List.getElem?_map, Option.map_eq_some_iff] at hu
    obtain ⟨x, hx, rfl⟩ := hu
    have e : ((⟨g, 0, none⟩ : Addr).add j) = ⟨g, j, none⟩ := by unfold Addr.add; split <;> simp_all
    rw [e]; exact h.2 j x hx⟩⟩
set_option maxHeartbeats 400000 in
theorem edges_any (g c : Nat) (ls : List ByteArray) (w : World) (hn : ls.length ≤ 4294967296) (hc : ls.length ≤ c) (hcm : c ≤ maxLen) (h1 : 1 ≤ ls.length) (hR : Row w g ls) (hs : ∀ x ∈ ls, x.size ≤ 4294967296) :
    Calls Tryz.prog 81 #[.slice (some ⟨g, 0, none⟩) ls.length c] w fun e w' => e = .returned (.slice (some ⟨g, (ft (bts ls)).1, none⟩) ((ft (bts ls)).2 - (ft (bts ls)).1) (c - (ft (bts ls)).1)) ∧ Below w.heap.size w w' := by
  unfold maxLen at hcm
  obtain ⟨n, hn'⟩ : ∃ n, n = ls.length := ⟨_, rfl⟩
  rw [← hn'] at hn hc h1 ⊢
  have HL := Lib.hid hn'
  have HS := Lib.hid hs
  have HR := Lib.hid hR
  clear hs hR hn'
  go_enter Tryz.func81, Tryz.ntmps81
  go_wp2
  go_loopw [3, 4, 9] (fun f t i wr => ∃ k : Nat, k ≤ n ∧ i = .int .i64 k ∧ f = .int .i64 ((ft ((bts ls).take k)).1 : Nat) ∧ t = .int .i64 ((ft ((bts ls).take k)).2 : Nat) ∧ Below w.heap.size w wr) (fun _ _ i _ => n - (intOf i).toNat)
  case atStart => exact ⟨0, Nat.zero_le _, rfl, rfl, rfl, Below.refl _ _⟩
  case round =>
    obtain ⟨k, hk, rfl, rfl, rfl, hbr⟩ := hrel
    by_cases hlt : k < n
    · obtain ⟨x, hx⟩ : ∃ x, ls[k]? = some x := ⟨ls[k]'(by have := HL.out; omega), List.getElem?_eq_getElem _⟩
      have hxs := HS.out x (List.mem_of_getElem? hx)
      have cx : wr.cell? ⟨g, k, none⟩ = some (.string x) := ((HR.out).below hbr (Nat.le_refl _)).2 k x hx
      have hnx := ft_next (bts ls) k _ (bts_at ls k x hx)
      have hcl := fun w => blank_any x hxs w
      have HN := Lib.hid hnx
      clear hx hnx
      generalize hft : ft ((bts ls).take k) = p at *
      clear hft
      obtain ⟨f, t⟩ := p
      generalize blk x.data.toList = bk at *
      have HC := Lib.hid hcl
      clear hcl
      cases bk
      · by_cases ht : t = 0
        · subst ht
          have HO : Hid (ft ((bts ls).take (k + 1)) = (k, k + 1)) := Lib.hid (by rw [HN.out]; rfl)
          go_wp2_with (go_at_call 100; refine (HC.out _).mono ?_; rintro e w1 ⟨rfl, hb⟩)
          exact ⟨⟨k + 1, by omega, by go_num, by rw [HO.out], by rw [HO.out]; go_num, Below_next hbr hb⟩, by simp [intOf]; omega⟩
        · have HO : Hid (ft ((bts ls).take (k + 1)) = (f, k + 1)) := Lib.hid (by rw [HN.out, if_neg (by simp)]; show (if t = 0 then k else f, k + 1) = _; rw [if_neg ht])
          have htz : ((t : Int) == 0) = false := by simp; omega
          clear ht
          go_wp2_with (go_at_call 100; refine (HC.out _).mono ?_; rintro e w1 ⟨rfl, hb⟩)
          exact ⟨⟨k + 1, by omega, by go_num, by rw [HO.out], by rw [HO.out]; go_num, Below_next hbr hb⟩, by simp [intOf]; omega⟩
      · have HO : Hid (ft ((bts ls).take (k + 1)) = (f, t)) := Lib.hid (by rw [HN.out]; rfl)
        go_wp2_with (go_at_call 100; refine (HC.out _).mono ?_; rintro e w1 ⟨rfl, hb⟩)
        exact ⟨⟨k + 1, by omega, by go_num, by rw [HO.out], by rw [HO.out], Below_next hbr hb⟩, by simp [intOf]; omega⟩
    · obtain rfl : k = n := by omega
      have hw := ft_whole (bts ls)
      have e : (bts ls).take k = bts ls := List.take_of_length_le (by rw [bts_len, ← HL.out]; exact Nat.le_refl _)
      rw [e]
      have hq : (ft (bts ls)).1 ≤ (ft (bts ls)).2 ∧ (ft (bts ls)).2 ≤ k ∧ (ft (bts ls)).1 < k := by
        rcases hw with ⟨h2, _⟩ | ⟨h2, h3, _⟩
        · rw [h2]; simp; omega
        · rw [bts_len, ← HL.out] at h3; omega
      obtain ⟨q1, q2, q3⟩ := hq
      clear hw e
      obtain ⟨⟨f, t⟩, hp⟩ : ∃ p, ft (bts ls) = p := ⟨_, rfl⟩
      have HP := Lib.hid hp
      rw [hp] at q1 q2 q3 ⊢
      clear hp
      simp only at q1 q2 q3 ⊢
      go_wp2
      go_ret
      exact ⟨by rw [HP.out]; rfl, hbr⟩
/-- A line without its first d bytes. -/
def cutA (d : Nat) (x : ByteArray) : ByteArray := x.extract (min d x.size) x.size
theorem cutA_data (d : Nat) (x : ByteArray) : (cutA d x).data.toList = x.data.toList.drop d := by
  unfold cutA
  rw [Lib.extract_data, List.take_of_length_le (by rw [List.length_drop, ← Lib.size_eq]; exact Nat.le_refl _), Lib.size_eq]
  rcases Nat.le_total d x.data.toList.length with h | h
  · rw [Nat.min_eq_left h]
  · rw [Nat.min_eq_right h, List.drop_of_length_le h, List.drop_of_length_le (Nat.le_refl _)]
/-- The first k lines cut, but for the first one. -/
def mixA (d : Nat) (L : List ByteArray) (k : Nat) : List ByteArray := L.mapIdx fun j x => if 1 ≤ j ∧ j < k then cutA d x else x
theorem mixA_at (d : Nat) (L : List ByteArray) (k j : Nat) : (mixA d L k)[j]? = (L[j]?).map fun x => if 1 ≤ j ∧ j < k then cutA d x else x := by
  unfold mixA; rw [List.getElem?_mapIdx]
theorem mixA_len (d : Nat) (L : List ByteArray) (k : Nat) : (mixA d L k).length = L.length := by unfold mixA; simp
theorem mixA_few (d : Nat) (L : List ByteArray) (k : Nat) (h : k ≤ 1) : mixA d L k = L := by
  apply List.ext_getElem?
  intro j
  rw [mixA_at]
  have : ¬ (1 ≤ j ∧ j < k) := by omega
  simp only [if_neg this]
  cases L[j]? <;> rfl
theorem mixA_set (d : Nat) (L : List ByteArray) (k : Nat) (x : ByteArray) (hk : 1 ≤ k) (h : L[k]? = some x) : mixA d L (k + 1) = (mixA d L k).set k (cutA d x) := by
  apply List.ext_getElem?
  intro j
  have hl := (List.getElem?_eq_some_iff.1 h).1
  rw [mixA_at, List.getElem?_set]
  by_cases e : k = j
  · subst e
    rw [if_pos rfl, if_pos (by rw [mixA_len]; exact hl), h, Option.map_some, if_pos (by omega)]
  · rw [if_neg e, mixA_at]
    have : (1 ≤ j ∧ j < k + 1) ↔ (1 ≤ j ∧ j < k) := by omega
    simp only [this]
theorem mixA_all (d : Nat) (L : List ByteArray) : bts (mixA d L L.length) = cutL d (bts L) := by
  cases L with
  | nil => rfl
  | cons x r =>
    unfold bts
    apply List.ext_getElem?
    intro j
    rw [List.getElem?_map, mixA_at, List.map_cons, cutL]
    cases j with
    | zero => simp
    | succ j =>
      rw [List.getElem?_cons_succ, List.getElem?_cons_succ, List.getElem?_map, List.getElem?_map]
      cases hx : r[j]? with
      | none => rfl
      | some y =>
        have := (List.getElem?_eq_some_iff.1 hx).1
        simp only [Option.map_some, Option.map_map]
        rw [if_pos (by rw [List.length_cons]; omega), cutA_data]
theorem mixA_size (d : Nat) (L : List ByteArray) (k B : Nat) (h : ∀ x ∈ L, x.size ≤ B) : ∀ x ∈ mixA d L k, x.size ≤ B := by
  intro x hx
  obtain ⟨j, hj, rfl⟩ := List.mem_iff_getElem.1 hx
  have e := mixA_at d L k j
  rw [List.getElem?_eq_getElem hj] at e
  cases hy : L[j]? with
  | none => rw [hy] at e; cases e
  | some y =>
    rw [hy, Option.map_some] at e
    have hyB := h y (List.mem_of_getElem? hy)
    rw [Option.some.inj e]
    split
    · unfold cutA; rw [ByteArray.size_extract]; omega
    · exact hyB
theorem line_size (s x : ByteArray) (h : x ∈ linesFrom s 0 0) : x.size ≤ s.size := by
  have h1 := linesB_lens s.data.toList false []
  have h2 : x.data.toList ∈ linesB false [] s.data.toList := by rw [← lines_bytes]; exact List.mem_map.2 ⟨x, h, rfl⟩
  have h3 : ∀ (ls : List (List UInt8)) l, l ∈ ls → l.length ≤ Lib.lens ls := by
    intro ls
    induction ls with
    | nil => intro l hl; simp at hl
    | cons a r ih =>
      intro l hl
      rw [lens_cons]
      rcases List.mem_cons.1 hl with rfl | hl
      · omega
      · have := ih l hl; omega
  have h4 := h3 _ _ h2
  have h5 := linesB_pos s.data.toList false []
  rw [List.length_nil, ← Lib.size_eq] at h1
  rw [← Lib.size_eq] at h4
  omega
theorem lines_len (s : ByteArray) : 1 ≤ (linesFrom s 0 0).length ∧ (linesFrom s 0 0).length ≤ s.size + 1 := by
  have e := congrArg List.length (lines_bytes s)
  rw [List.length_map] at e
  have h1 := linesB_lens s.data.toList false []
  have h2 := linesB_pos s.data.toList false []
  rw [List.length_nil, ← Lib.size_eq] at h1
  omega
theorem lines_bts (s : ByteArray) : bts (linesFrom s 0 0) = lnB s.data.toList := lines_bytes s
theorem bts_edge (ls : List ByteArray) (f t : Nat) (h : ft (bts ls) = (f, t)) : ((ls.drop f).take (t - f)).map (fun x => x.data.toList) = edg (bts ls) := by
  unfold edg bts at *
  rw [h, List.map_take, List.map_drop]
/-- An own row of texts, as it stands. -/
theorem own_row {w : World} {B g c n : Nat} {L : List ByteArray} (h : w.ownsRow B 9 1 (.slice (some ⟨g, 0, none⟩) n c) n (L.map Value.string)) (hn : L.length = n) : Row w g L := by
  refine ⟨(h.lt g rfl).2, fun j x hx => ?_⟩
  have hj : j < L.length := (List.getElem?_eq_some_iff.1 hx).1
  rw [h.cellAt j (by omega)]; simp [hx]
theorem own_cap {w : World} {B g c n : Nat} {xs : List Value} (h : w.ownsRow B 9 1 (.slice (some ⟨g, 0, none⟩) n c) n xs) : n ≤ c ∧ c ≤ maxLen := by
  rcases h.2 with ⟨hv, _⟩ | ⟨g', cap, cur, hv, _, _, h1, h2, _⟩
  · cases hv
  · cases hv; exact ⟨h1, h2⟩
set_option maxHeartbeats 1000000 in
set_option maxRecDepth 100000 in
theorem value_any (s : ByteArray) (hs : s.size ≤ 1000000) (w : World) (hm : MaxL w) :
    Calls Tryz.prog 62 #[.string s] w fun e w' => e = .returned (.string ⟨(valM s.data.toList).toArray⟩) ∧ Below w.heap.size w w' := by
  have hrw := rows_any s ⟨#[92, 34, 34, 34]⟩ ⟨#[34, 34, 34]⟩ (by omega) (by decide) (by decide) w hm
  have hlen := turn_len escL rowL s.data.toList (by decide) (by decide)
  rw [← Lib.size_eq] at hlen
  have hval : (valM s.data.toList) = valL (turn escL rowL s.data.toList) := rfl
  rw [hval]
  change Calls Tryz.prog 78 _ w (fun e w' => e = .returned (.string ⟨(turn escL rowL s.data.toList).toArray⟩) ∧ Below w.heap.size w w') at hrw
  obtain ⟨T, hT, hTd⟩ : ∃ T : ByteArray, T = ⟨(turn escL rowL s.data.toList).toArray⟩ ∧ T.data.toList = turn escL rowL s.data.toList := ⟨_, rfl, by simp⟩
  rw [← hT] at hrw
  rw [← hTd] at hlen ⊢
  rw [← Lib.size_eq] at hlen
  have HRW := Lib.hid hrw
  clear hrw hT hTd hval hm
  have hl := lines_len T
  have hls := line_size T
  have hb := lines_bts T
  have hvl := val_len T.data.toList
  rw [← Lib.size_eq] at hvl
  have hli := fun w => lines_any T (by omega) w
  have hv : valL T.data.toList = Lib.join (edg (cutL (ind (bts (linesFrom T 0 0))) (bts (linesFrom T 0 0)))) [10] := by rw [hb]; rfl
  rw [hv] at hvl ⊢
  have HV : Hid (True) := Lib.hid trivial
  clear hv hb
  generalize hL : linesFrom T 0 0 = L at *
  clear hL
  have HLI := Lib.hid hli
  have HLS := Lib.hid (fun x hx => Nat.le_trans (hls x hx) (show T.size ≤ 4000000 by omega))
  have HVL := Lib.hid hvl
  clear hli hls hvl
  obtain ⟨n, hn⟩ : ∃ n, n = L.length := ⟨_, rfl⟩
  have HN := Lib.hid hn
  have hn1 : 1 ≤ n := by omega
  have hn2 : n ≤ 4000001 := by omega
  obtain ⟨d, hd⟩ : ∃ d, d = ind (bts L) := ⟨_, rfl⟩
  rw [← hd] at HVL ⊢
  have HD := Lib.hid hd
  clear hl hn hd
  go_enter Tryz.func62, Tryz.ntmps62
  go_wp2_with (first | (go_at_call 78; refine HRW.out.mono ?_; rintro e w1 ⟨rfl, hb1⟩) | (go_at_call 77; refine (HLI.out _).mono ?_; rintro e w2 ⟨v, rfl, hown, hb2⟩))
  rw [← HN.out] at hown
  obtain ⟨g, cap, hv⟩ := Joins.ownsRow_form hown hn1
  subst hv
  have hrow := own_row hown HN.out.symm
  obtain ⟨hc1, hc2⟩ := own_cap hown
  have hc3 := hc2
  unfold maxLen at hc3
  have hgB : w1.heap.size ≤ g := (hown.lt g rfl).1
  have hgw : w.heap.size ≤ g := by have := hb1.size; omega
  have hB2 := Below_next hb1 hb2
  have hrd := hrow.rd
  rw [← HN.out] at hrd
  go_wp2_with (go_at_call 79; refine (indent_any _ n cap L _ (by omega) hrd (fun x hx => by have := HLS.out x hx; omega)).mono ?_; rintro e w3 ⟨rfl, hb3⟩)
  rw [← HD.out]
  have hown3 := own_below hown hb3 (Nat.le_refl _)
  have hB3 := Below_next hB2 hb3
  have hg3 := (hown3.lt g rfl).2
  clear hown hrow hrd hb1 hb2 hb3 hB2
  go_loopw [14] (fun i wr => ∃ k : Nat, k ≤ n ∧ i = .int .i64 k ∧ wr.ownsRow w1.heap.size 9 1 (.slice (some ⟨g, 0, none⟩) n cap) n ((mixA d L k).map Value.string) ∧ Below w.heap.size w wr) (fun i _ => n - (intOf i).toNat)
  case atStart => exact ⟨0, Nat.zero_le _, rfl, by rw [mixA_few d L 0 (by omega)]; exact hown3, hB3⟩
  case round =>
    obtain ⟨k, hk, rfl, hown4, hB4⟩ := hrel
    by_cases hlt : k < n
    · obtain ⟨x, hx⟩ : ∃ x, L[k]? = some x := ⟨L[k]'(by have := HN.out; omega), List.getElem?_eq_getElem _⟩
      have HX := Lib.hid hx
      have hxs := HLS.out x (List.mem_of_getElem? hx)
      have cx : wr.cell? ⟨g, k, none⟩ = some (.string x) := by
        refine (own_row hown4 (by rw [mixA_len]; exact HN.out.symm)).2 k x ?_
        rw [mixA_at, hx, Option.map_some, if_neg (by omega)]
      have hfz := hown4.frozenAt k
      clear hx
      by_cases h0 : k = 0
      · subst h0
        have HM := Lib.hid (show mixA d L (0 + 1) = mixA d L 0 by rw [mixA_few d L 0 (by omega), mixA_few d L (0 + 1) (by omega)])
        go_wp2
        exact ⟨⟨1, by omega, by go_num, by have := HM.out; rw [this]; exact hown4, hB4⟩, by simp [intOf]; omega⟩
      · have hk1 : 1 ≤ k := by omega
        have HM := Lib.hid (mixA_set d L k x hk1 HX.out)
        have hst := (hown4.stored k (.string (cutA d x))).1
        rw [← List.map_set (f := Value.string), ← HM.out] at hst
        have HST := Lib.hid hst
        have HB := Lib.hid (hB4.setCell (p := ⟨g, k, none⟩) hgw (.string (cutA d x)))
        unfold cutA at HST HB
        clear hst h0
        rw [show min d x.size = (min (d : Int) (x.size : Int)).toNat by omega] at HST HB
        go_wp2
        exact ⟨⟨k + 1, by omega, by go_num, HST.out, HB.out⟩, by simp [intOf]; omega⟩
    · obtain rfl : k = n := by omega
      have hmn : (mixA d L k).length = k := by rw [mixA_len]; exact HN.out.symm
      have hrow := own_row hown4 hmn
      have hbt : bts (mixA d L k) = cutL d (bts L) := by rw [HN.out]; exact mixA_all d L
      have hsz := mixA_size d L k 4000000 HLS.out
      have hea := fun w hR => edges_any g cap (mixA d L k) w (by omega) (by omega) hc2 (by omega) hR (fun x hx => by have := hsz x hx; omega)
      rw [hmn, hbt] at hea
      obtain ⟨⟨f, t⟩, hft⟩ : ∃ p, ft (cutL d (bts L)) = p := ⟨_, rfl⟩
      have hft' := hft
      rw [← hbt] at hft'
      have hed := bts_edge (mixA d L k) f t hft'
      rw [hbt] at hed
      have hfw := ft_whole (cutL d (bts L))
      rw [hft] at hea hfw
      have hq : f ≤ t ∧ t ≤ k := by
        rcases hfw with ⟨h2, _⟩ | ⟨h2, h3, _⟩
        · cases h2; omega
        · rw [cutL_len, bts_len, ← HN.out] at h3; simp only at h2 h3; omega
      have hxl : (((mixA d L k).drop f).take (t - f)).length = t - f := by rw [List.length_take, List.length_drop, hmn]; omega
      have HROW : Hid (∀ (j : Nat) x, (((mixA d L k).drop f).take (t - f))[j]? = some x → wr.cell? ⟨g, f + j, none⟩ = some (.string x)) := Lib.hid fun j x hx => by
        rw [List.getElem?_take] at hx
        split at hx
        · rw [List.getElem?_drop] at hx
          exact hrow.2 (f + j) x hx
        · cases hx
      have hjoin := fun w hcl hbk => Tryz.strings_Join g f (cap - f) (((mixA d L k).drop f).take (t - f)) ⟨#[10]⟩ w hcl hbk (by rw [hxl]; omega) (by rw [hxl]; omega) (by rw [hed]; have := HVL.out; show (Lib.join _ [10]).length ≤ _; omega)
      rw [hxl, hed] at hjoin
      have HJ := Lib.hid hjoin
      have HEA := Lib.hid hea
      clear hjoin hea hed hft hft' hfw hbt hsz
      go_wp2_with (first | (go_at_call 81; refine (HEA.out _ hrow).mono ?_; rintro e w5 ⟨rfl, hb5⟩) | (go_at_call 80; refine (HJ.out _ (fun j x hx => (hb5.cell (p := ⟨g, f + j, none⟩) hrow.1).trans (HROW.out j x hx)) (by have := hb5.size; have := hrow.1; omega)).mono ?_; rintro e w6 ⟨rfl, hb6⟩))
      go_ret
      exact ⟨rfl, Below_next (Below_next hB4 hb5) hb6⟩
end Go.Proofs.YtejniiehfangkaaGreatDoor.Bk
